/-
  Contracts of the library at lists of queues: Insert.
-/
import Derived.Test.YtdomimpcjkajiaaQM
namespace Go.Proofs.Ytdomimpcjkajiaa
open Go.RowKit Go.Deep Go.Maps
set_option linter.unusedVariables false
attribute [local go_sem ↓] appG_eq copG_eq

/-- A queue in a block of its own. -/
abbrev boxQ (q : Qu) : Obj := .cells #[.int .i64 q.id, .int .i64 q.par, .int .i64 q.wt, .int .i64 q.qc, .int .i64 q.qm, .int .i64 q.mc, .int .i64 q.mm] 38
theorem box_cells {w : World} {vb : Nat} {q : Qu} (h : w.heap[vb]? = some (boxQ q)) : (∀ j v, q.cs[j]? = some v → w.cell? ⟨vb, j, none⟩ = some v) ∧ (∀ j, w.frozen? ⟨vb, j, none⟩ = false) ∧ w.shape? vb = some (38, 7) ∧ vb < w.heap.size := by
  refine ⟨fun j v hj => ?_, fun j => ?_, ?_, (Array.getElem?_eq_some_iff.1 h).1⟩
  · rw [cell_of_row w vb j _ _ (0, 0) h, ← Array.getElem?_toList]
    exact hj
  · simp [World.frozen?, h]
  · simp [World.shape?, h]
theorem box_holds {w : World} {vb : Nat} {q : Qu} (h : w.heap[vb]? = some (boxQ q)) : HoldsQ w (some ⟨vb, 0, none⟩) 1 1 [q] := by
  obtain ⟨hc, _, _, hlt⟩ := box_cells h
  refine ⟨rfl, by omega, by omega, (fun e => by cases e), fun _ => ⟨vb, 0, rfl, hlt, fun j x hx i v hv => ?_⟩⟩
  match j, hx with
  | 0, hx => simp at hx; subst hx; simpa using hc i v hv

theorem below_setCells {B b o : Nat} {w w' : World} {vs : List Value} (h : Below B w w') (hb : B ≤ b) : Below B w (w'.setCells b o vs) := by
  induction vs generalizing o w' with
  | nil => exact h
  | cons v r ih => rw [World.setCells]; exact ih (h.setCell (p := ⟨b, o, none⟩) hb v)

/-- With a queue more, at a place. -/
def insQ (l : List Qu) (i : Nat) (q : Qu) : List Qu := l.take i ++ q :: l.drop i
theorem insQ_len {l : List Qu} {i : Nat} {q : Qu} (h : i ≤ l.length) : (insQ l i q).length = l.length + 1 := by unfold insQ; simp; omega

theorem ins_holds {W : World} {g n cap i : Nat} {l : List Qu} {q : Qu} (hl : l.length = n) (hi : i < n) (hcap : n + 1 ≤ cap) (hc63 : cap ≤ 9223372036854775807) (hg : g < W.heap.size)
    (h1 : ∀ p v, p < i * 7 → (l.flatMap Qu.cs)[p]? = some v → W.cell? ⟨g, p, none⟩ = some v) (h2 : ∀ p v, q.cs[p]? = some v → W.cell? ⟨g, i * 7 + p, none⟩ = some v) (h3 : ∀ p v, ((l.flatMap Qu.cs).drop (i * 7))[p]? = some v → W.cell? ⟨g, (i + 1) * 7 + p, none⟩ = some v) :
    HoldsQ W (some ⟨g, 0, none⟩) (n + 1) cap (insQ l i q) := by
  refine ⟨by rw [insQ_len (by omega), hl], hcap, hc63, (fun e => by cases e), fun _ => ⟨g, 0, rfl, hg, fun j x hx t v hv => ?_⟩⟩
  have ht : t < 7 := by have := (List.getElem?_eq_some_iff.1 hv).1; rw [Qu.cs_len] at this; exact this
  unfold insQ at hx
  rcases Nat.lt_trichotomy j i with hj | hj | hj
  · rw [List.getElem?_append_left (by simp; omega), List.getElem?_take, if_pos hj] at hx
    have := h1 (j * 7 + t) v (by omega) (flat_get Qu.cs_len l j x t v hx hv)
    rw [show 0 + j * 7 + t = j * 7 + t by omega]; exact this
  · subst hj
    rw [List.getElem?_append_right (by simp; omega)] at hx
    have e0 : j - (l.take j).length = 0 := by simp; omega
    rw [e0] at hx
    simp at hx
    subst hx
    have := h2 t v hv
    rw [show 0 + j * 7 + t = j * 7 + t by omega]; exact this
  · rw [List.getElem?_append_right (by simp; omega)] at hx
    have e0 : j - (l.take i).length = (j - i - 1) + 1 := by simp; omega
    rw [e0, List.getElem?_cons_succ, List.getElem?_drop] at hx
    have hf := flat_get Qu.cs_len l _ x t v hx hv
    have := h3 ((j - i - 1) * 7 + t) v (by rw [List.getElem?_drop]; rw [show i * 7 + ((j - i - 1) * 7 + t) = (i + (j - i - 1)) * 7 + t by omega]; exact hf)
    rw [show 0 + j * 7 + t = (i + 1) * 7 + ((j - i - 1) * 7 + t) by omega]; exact this

set_option maxRecDepth 100000 in
set_option maxHeartbeats 4000000 in
theorem insert_end (base g n cap vb : Nat) (l : List Qu) (q : Qu) (w : World) (hown : OwnQ base w (.slice (some ⟨g, 0, none⟩) n cap) n l) (hb : base ≤ w.heap.size) (hv : w.heap[vb]? = some (boxQ q)) (hn : n ≤ 64) :
    Calls Try.prog 72 #[.slice (some ⟨g, 0, none⟩) n cap, .int .i64 (n : Int), .slice (some ⟨vb, 0, none⟩) 1 1] w fun e w' => ∃ v, e = .returned v ∧ NewQ base w' v (n + 1) (l ++ [q]) ∧ Below base w w' := by
  obtain ⟨v', w', hrun, h2, h3, _⟩ := (by
    obtain ⟨i0, hi, hz0, hz1, hz2⟩ := info_parts infoQ
    exact run_append_own (P := Try.prog) w base 22 22 38 i0 _ 7 56 Try.underlying22 hi hz0 hz1 hz2 rfl (by decide) _ n _ hown.2 ⟨vb, 0, none⟩ 1 1 q.cs rfl (fun j u hj => by rw [Addr.add_lit, Nat.zero_add]; exact (box_cells hv).1 j u hj) q.one (by unfold maxLen; omega) (by omega) hb : ∃ v' w', _)
  have hN : Hid (NewQ base w' v' (n + 1) (l ++ [q])) := OwnE.newQ (h := ⟨by simp [hown.len], by simpa using h2⟩) (by omega)
  have hB : Hid (Below base w w') := (Below.refl base w).grown h3 hb (fun k e => (hown.lt k e).1)
  have hcap := (own_cells hown).2.2.2.2.1
  have hcap6 := (own_cells hown).2.2.2.2.2.1
  rw [appG_eq] at hrun
  clear h2 h3 hown hv
  go_enter Try.func72, Try.ntmps72
  go_wp2
  all_goals
    go_ret
    exact ⟨_, rfl, hN.out, hB.out⟩

theorem flatQ_len (l : List Qu) : (l.flatMap Qu.cs).length = l.length * 7 := flat_len Qu.cs_len l
theorem flatQ_one {l : List Qu} : ∀ v ∈ l.flatMap Qu.cs, v.oneCell' = true := fun v hv => by
  obtain ⟨x, _, hx⟩ := List.mem_flatMap.1 hv
  exact x.one v hx

set_option maxRecDepth 100000 in
set_option maxHeartbeats 4000000 in
theorem insert_shift (base g n cap vb i : Nat) (l : List Qu) (q : Qu) (w : World) (hown : OwnQ base w (.slice (some ⟨g, 0, none⟩) n cap) n l) (hb : base ≤ w.heap.size) (hv : w.heap[vb]? = some (boxQ q)) (hvg : vb ≠ g) (hn : n ≤ 64) (hi : i < n) (hroom : n + 1 ≤ cap) :
    Calls Try.prog 72 #[.slice (some ⟨g, 0, none⟩) n cap, .int .i64 (i : Int), .slice (some ⟨vb, 0, none⟩) 1 1] w fun e w' => ∃ v, e = .returned v ∧ NewQ base w' v (n + 1) (insQ l i q) ∧ Below base w w' := by
  obtain ⟨⟨kB, hsb, hkB⟩, hsp, hfz, hcs, hnc, hc63, hbg, hgw⟩ := own_cells hown
  obtain ⟨hvs, hvf, hsa, hvw⟩ := box_cells hv
  have hl := hown.len
  generalize hF : l.flatMap Qu.cs = F at *
  have hFl : F.length = n * 7 := by rw [← hF, flatQ_len, hl]
  have hF1 : ∀ v ∈ F, v.oneCell' = true := by rw [← hF]; exact flatQ_one
  have hdl : (F.drop (i * 7)).length = (n - i) * 7 := by rw [List.length_drop, hFl]; omega
  have hov : ∀ lb cb, (callFunc 98 #[.slice (some ⟨vb, 0, none⟩) 1 1, .slice (some ⟨g, (i + 1) * 7, none⟩) lb cb]).run Try.prog w = .ok (.value (.bool false)) w := fun lb cb => by
    rw [run_callFunc_extern Try.func98 (by kernel_rfl) (by kernel_rfl) (by kernel_rfl) (e := Extern.SlicesOverlaps.overlaps #[22, 22] #[4]) (by kernel_rfl),
      Lib.run_overlaps_apart w 22 4 38 Try.underlying22 7 Try.sizeOf38 ⟨vb, 0, none⟩ ⟨g, (i + 1) * 7, none⟩ 1 1 lb cb hvg 38 38 7 kB hsa hsb (by omega) (hvf 0) (hvf 7)]
    rfl
  have hcp1 : ∀ ty dc sc, (copG #[22, 22] ty #[.slice (some ⟨g, (i + 1) * 7, none⟩) (n - i) dc, .slice (some ⟨g, i * 7, none⟩) (n + 1 - i) sc]).run Try.prog w.drew = .ok (goInt (Nat.min (n + 1 - i) (n - i))) (w.drew.setCells g ((i + 1) * 7) (F.drop (i * 7))) := fun ty dc sc =>
    run_copy_k w.drew _ _ ty 38 7 g ((i + 1) * 7) (n - i) dc ⟨g, i * 7, none⟩ (n + 1 - i) sc (F.drop (i * 7)) Try.underlying22 sizeQ (by rw [hdl]; simp only [Nat.min_def]; split <;> omega)
      (fun j v hj => by rw [Addr.add_lit]; exact hcs (i * 7 + j) v (by rwa [List.getElem?_drop] at hj))
      (fun j hj => hsp _ (by omega)) (fun j hj => hfz _) (fun v hv => hF1 v (List.mem_of_mem_drop hv))
  obtain ⟨W1, hW1⟩ : ∃ W1, W1 = w.drew.setCells g ((i + 1) * 7) (F.drop (i * 7)) := ⟨_, rfl⟩
  have hsp1 : ∀ k, k < cap * 7 → (W1.cell? ⟨g, k, none⟩).isSome = true := fun k hk => by
    rw [hW1]
    exact isSome_setC g (F.drop (i * 7)) ((i + 1) * 7) w.drew (fun j hj => hsp _ (by rw [hdl] at hj; omega)) k (hsp k hk)
  have hfz1 : ∀ k, W1.frozen? ⟨g, k, none⟩ = false := fun k => by rw [hW1, World.frozen?_setCells]; exact hfz k
  have hcp2 : ∀ ty dc, (copG #[22, 22] ty #[.slice (some ⟨g, i * 7, none⟩) (n + 1 - i) dc, .slice (some ⟨vb, 0, none⟩) 1 1]).run Try.prog W1 = .ok (goInt (Nat.min 1 (n + 1 - i))) (W1.setCells g (i * 7) q.cs) := fun ty dc =>
    run_copy_k W1 _ _ ty 38 7 g (i * 7) (n + 1 - i) dc ⟨vb, 0, none⟩ 1 1 q.cs Try.underlying22 sizeQ (by rw [Qu.cs_len]; simp only [Nat.min_def]; split <;> omega)
      (fun j v hj => by
        rw [Addr.add_lit, Nat.zero_add, hW1, World.cell?_setCells_out g _ _ _ _ (fun h _ => absurd h hvg)]
        exact hvs j v hj)
      (fun j hj => hsp1 _ (by rw [Qu.cs_len] at hj; omega)) (fun j hj => hfz1 _) q.one
  have hB : Hid (Below base w (W1.setCells g (i * 7) q.cs)) := by
    rw [hW1]
    exact below_setCells (below_setCells (Below.refl base w).drew hbg) hbg
  have hN : Hid (NewQ base (W1.setCells g (i * 7) q.cs) (.slice (some ⟨g, 0, none⟩) (n + 1) cap) (n + 1) (insQ l i q)) := by
    refine ⟨g, cap, rfl, hbg, ins_holds hl hi hroom hc63 ?_ ?_ ?_ ?_⟩
    · exact Nat.lt_of_lt_of_le hgw hB.out.size
    · intro p v hp hpv
      rw [hF] at hpv
      rw [World.cell?_setCells_out g _ _ _ _ (fun _ _ => by show p < i * 7 ∨ _; omega), hW1, World.cell?_setCells_out g _ _ _ _ (fun _ _ => by show p < (i + 1) * 7 ∨ _; omega)]
      exact hcs p v hpv
    · intro p v hpv
      have hp := (List.getElem?_eq_some_iff.1 hpv)
      obtain ⟨hp1, hp2⟩ := hp
      rw [World.cell?_setCells_in g q.cs (i * 7) W1 (fun j hj => hsp1 _ (by rw [Qu.cs_len] at hj; omega)) p hp1, hp2]
    · intro p v hpv
      rw [hF] at hpv
      obtain ⟨hp1, hp2⟩ := (List.getElem?_eq_some_iff.1 hpv)
      rw [World.cell?_setCells_out g _ _ _ _ (fun _ _ => by show _ ∨ i * 7 + q.cs.length ≤ _; rw [Qu.cs_len]; show _ ∨ i * 7 + 7 ≤ (i + 1) * 7 + p; omega), hW1, World.cell?_setCells_in g (F.drop (i * 7)) ((i + 1) * 7) w.drew (fun j hj => hsp _ (by omega)) p hp1, hp2]
  rw [← hW1] at hcp1
  clear hsb hkB hsp hfz hcs hvs hvf hsa hF hFl hF1 hdl hsp1 hfz1 hW1 hown hv hvw
  have hz2 : ¬ ((i : Int) = (n : Int)) := by omega
  have hw1 : IntKind.i64.wrap ((i : Int) + 1) = (i : Int) + 1 := by rw [IntKind.wrap_i64]; omega
  have hb1 : (0 : Int) ≤ (i : Int) + 1 := by omega
  have hin : i ≤ n := by omega
  have htn : ((i : Int) + 1).toNat = i + 1 := by omega
  have hb2 : ¬ (cap = i + 1) := by omega
  have hb3 : (i : Int) ≤ (n : Int) + 1 := by omega
  have hb4 : ¬ (cap = i) := by omega
  go_enter Try.func72, Try.ntmps72
  go_wp2_with (simp only [hov])
  have hb5 : (i : Int) + 1 ≤ (n : Int) + 1 := by omega
  have hb6 : (i : Int) + 1 ≤ (cap : Int) := by omega
  have hb7 : (0 : Int) ≤ (i : Int) := by omega
  go_region_with fail
  all_goals go_wp2
  all_goals
    go_ret
    exact ⟨_, rfl, hN.out, hB.out⟩

set_option maxRecDepth 100000 in
set_option maxHeartbeats 4000000 in
theorem insert_grow (base g n cap vb i : Nat) (l : List Qu) (q : Qu) (w : World) (hown : OwnQ base w (.slice (some ⟨g, 0, none⟩) n cap) n l) (hb : base ≤ w.heap.size) (hv : w.heap[vb]? = some (boxQ q)) (hn : n ≤ 64) (hi : i < n) (hroom : cap < n + 1) :
    Calls Try.prog 72 #[.slice (some ⟨g, 0, none⟩) n cap, .int .i64 (i : Int), .slice (some ⟨vb, 0, none⟩) 1 1] w fun e w' => ∃ v, e = .returned v ∧ NewQ base w' v (n + 1) (insQ l i q) ∧ Below base w w' := by
  obtain ⟨⟨kB, hsb, hkB⟩, hsp, hfz, hcs, hnc, hc63, hbg, hgw⟩ := own_cells hown
  obtain ⟨hvs, hvf, hsa, hvw⟩ := box_cells hv
  obtain ⟨i0, hi0, hz0, hzs, hzb⟩ := info_parts infoQ
  have hl := hown.len
  generalize hF : l.flatMap Qu.cs = F at *
  have hFl : F.length = n * 7 := by rw [← hF, flatQ_len, hl]
  have hF1 : ∀ v ∈ F, v.oneCell' = true := by rw [← hF]; exact flatQ_one
  have hdl : (F.drop (i * 7)).length = (n - i) * 7 := by rw [List.length_drop, hFl]; omega
  have hik : i + (n + 1 - i) = n + 1 := by omega
  have hkk : (n : Int) + 1 - (i : Int) = ((n + 1 - i : Nat) : Int) := by omega
  have hold : (Builtin.firstCells i0.size i (.slice (some ⟨g, 0, none⟩) i cap)).run Try.prog w.drew = .ok (F.take (i * 7)).toArray w.drew := by
    rw [hzs]
    exact run_firstCells_some w.drew 7 i ⟨g, 0, none⟩ i cap (F.take (i * 7)) (by rw [List.length_take, hFl]; omega) (fun j v hj => by
      rw [Addr.add_lit, Nat.zero_add]
      rw [List.getElem?_take] at hj
      split at hj
      · exact hcs j v hj
      · cases hj)
  obtain ⟨G, hG⟩ : ∃ G, G = grownCap w (n + 1) cap 38 := ⟨_, rfl⟩
  obtain ⟨Z, hZ⟩ : ∃ Z : Value, Z = .agg #[.int .i64 0, .int .i64 0, .int .i64 0, .int .i64 0, .int .i64 0, .int .i64 0, .int .i64 0] := ⟨_, rfl⟩
  rw [← hZ] at hz0
  obtain ⟨ROW, hROW⟩ : ∃ ROW : Array Value, ROW = (F.take (i * 7)).toArray ++ Builtin.zeroCells Z.cells (n + 1 - i) ++ Builtin.zeroCells Z.cells (G - (n + 1)) := ⟨_, rfl⟩
  have hrz : ∀ ty, (appG #[22, 3] ty #[.slice (some ⟨g, 0, none⟩) i cap, .int .i64 ((n : Int) + 1 - (i : Int))]).run Try.prog w = .ok (.slice (some ⟨w.heap.size, 0, none⟩) (n + 1) G) ((w.alloc (.cells ROW 38)).drew) := fun ty => by
    have h := Lib.run_append_grow_zeros w 22 3 ty 38 i0 Z .i64 .i64 Try.underlying22 Try.underlying3 hi0 hz0 (some ⟨g, 0, none⟩) i cap (F.take (i * 7)) hold (n + 1 - i) (by omega) (by rw [hzs]; decide) (by omega) (by omega) (by rw [hzb]; omega) (by rw [hzb, hik]; exact growslice_fits hroom (by omega))
    rw [hik, ← hG, ← hROW] at h
    rw [hkk]
    exact h
  have hGn : n + 1 ≤ G := by rw [hG]; exact grownCap_ge w _ _ _
  have hG63 : G ≤ 9223372036854775807 := by
    have := grownCap_le_maxLen w (n + 1) cap 38 (by unfold maxLen; omega)
    rw [← hG] at this
    unfold maxLen at this
    omega
  have hZl : ∀ k, (Builtin.zeroCells Z.cells k).size = k * 7 := fun k => by rw [hZ]; simp [Builtin.zeroCells, Value.cells]
  have hRl : ROW.size = G * 7 := by
    rw [hROW]
    simp only [Array.size_append, hZl, List.size_toArray, List.length_take, hFl]
    omega
  obtain ⟨W1, hW1⟩ : ∃ W1, W1 = (w.alloc (.cells ROW 38)).drew := ⟨_, rfl⟩
  rw [← hW1] at hrz
  have hN : ∀ j, j < G * 7 → (W1.cell? ⟨w.heap.size, j, none⟩).isSome = true := fun j hj => by
    rw [hW1]
    show ((w.alloc (.cells ROW 38)).cell? ⟨w.heap.size, j, none⟩).isSome = true
    rw [World.cell?_alloc_at (w := w) ROW _ w.heap.size j rfl, Array.getElem?_eq_getElem (by omega)]; rfl
  have hNR : ∀ j v, j < i * 7 → F[j]? = some v → W1.cell? ⟨w.heap.size, j, none⟩ = some v := fun j v hj hv => by
    rw [hW1]
    show (w.alloc (.cells ROW 38)).cell? ⟨w.heap.size, j, none⟩ = some v
    rw [World.cell?_alloc_at (w := w) ROW _ w.heap.size j rfl, hROW, Array.append_assoc, Array.getElem?_append_left (by simp; omega)]
    simp [hj, hv]
  have hNf : ∀ j, W1.frozen? ⟨w.heap.size, j, none⟩ = false := fun j => by rw [hW1]; exact World.frozen?_alloc_at (w := w) ROW _ w.heap.size j rfl
  have hOg : ∀ j v, w.cell? ⟨g, j, none⟩ = some v → W1.cell? ⟨g, j, none⟩ = some v := fun j v h => by rw [hW1]; exact (World.cell?_alloc_past (w := w) _ g j hgw).trans h
  have hOv : ∀ j v, w.cell? ⟨vb, j, none⟩ = some v → W1.cell? ⟨vb, j, none⟩ = some v := fun j v h => by rw [hW1]; exact (World.cell?_alloc_past (w := w) _ vb j hvw).trans h
  have hcpA : ∀ ty dc, (copG #[22, 22] ty #[.slice (some ⟨w.heap.size, i * 7, none⟩) (n + 1 - i) dc, .slice (some ⟨vb, 0, none⟩) 1 1]).run Try.prog W1 = .ok (goInt (Nat.min 1 (n + 1 - i))) (W1.setCells w.heap.size (i * 7) q.cs) := fun ty dc =>
    run_copy_k W1 _ _ ty 38 7 w.heap.size (i * 7) (n + 1 - i) dc ⟨vb, 0, none⟩ 1 1 q.cs Try.underlying22 sizeQ (by rw [Qu.cs_len]; simp only [Nat.min_def]; split <;> omega)
      (fun j v hj => by rw [Addr.add_lit, Nat.zero_add]; exact hOv _ v (hvs j v hj))
      (fun j hj => hN _ (by rw [Qu.cs_len] at hj; omega)) (fun j hj => hNf _) q.one
  obtain ⟨W2, hW2⟩ : ∃ W2, W2 = W1.setCells w.heap.size (i * 7) q.cs := ⟨_, rfl⟩
  rw [← hW2] at hcpA
  have hN2 : ∀ j, j < G * 7 → (W2.cell? ⟨w.heap.size, j, none⟩).isSome = true := fun j hj => by
    rw [hW2]
    exact isSome_setC _ q.cs (i * 7) W1 (fun t ht => hN _ (by rw [Qu.cs_len] at ht; omega)) j (hN j hj)
  have hgN : g ≠ w.heap.size := by omega
  have hcpB : ∀ ty dc sc, (copG #[22, 22] ty #[.slice (some ⟨w.heap.size, (i + 1) * 7, none⟩) (n - i) dc, .slice (some ⟨g, i * 7, none⟩) (n - i) sc]).run Try.prog W2.drew = .ok (goInt (Nat.min (n - i) (n - i))) (W2.drew.setCells w.heap.size ((i + 1) * 7) (F.drop (i * 7))) := fun ty dc sc =>
    run_copy_k W2.drew _ _ ty 38 7 w.heap.size ((i + 1) * 7) (n - i) dc ⟨g, i * 7, none⟩ (n - i) sc (F.drop (i * 7)) Try.underlying22 sizeQ (by rw [hdl]; simp only [Nat.min_def]; split <;> omega)
      (fun j v hj => by
        show W2.cell? _ = _
        rw [Addr.add_lit, hW2, World.cell?_setCells_out _ _ _ _ _ (fun h _ => absurd h hgN)]
        exact hOg _ v (hcs (i * 7 + j) v (by rwa [List.getElem?_drop] at hj)))
      (fun j hj => hN2 _ (by rw [hdl] at hj; omega))
      (fun j hj => by show W2.frozen? _ = false; rw [hW2, World.frozen?_setCells]; exact hNf _) (fun v hv => hF1 v (List.mem_of_mem_drop hv))
  have hB : Hid (Below base w (W2.drew.setCells w.heap.size ((i + 1) * 7) (F.drop (i * 7)))) := by
    rw [hW2, hW1]
    exact below_setCells (Below.drew (below_setCells ((Below.refl base w).alloc hb _).drew hb)) hb
  have hQ : Hid (NewQ base (W2.drew.setCells w.heap.size ((i + 1) * 7) (F.drop (i * 7))) (.slice (some ⟨w.heap.size, 0, none⟩) (n + 1) G) (n + 1) (insQ l i q)) := by
    refine ⟨w.heap.size, G, rfl, hb, ins_holds hl hi hGn hG63 ?_ ?_ ?_ ?_⟩
    · have h1 : (w.alloc (.cells ROW 38)).heap.size ≤ (W2.drew.setCells w.heap.size ((i + 1) * 7) (F.drop (i * 7))).heap.size := by
        have := below_setCells (o := (i + 1) * 7) (vs := F.drop (i * 7)) (Below.drew (below_setCells (o := i * 7) (vs := q.cs) (Below.refl 0 ((w.alloc (.cells ROW 38)).drew)) (Nat.zero_le w.heap.size))) (Nat.zero_le w.heap.size)
        rw [hW2, hW1]
        exact this.size
      simp at h1
      omega
    · intro p v hp hpv
      rw [hF] at hpv
      rw [World.cell?_setCells_out _ _ _ _ _ (fun _ _ => by show p < (i + 1) * 7 ∨ _; omega)]
      show W2.cell? _ = _
      rw [hW2, World.cell?_setCells_out _ _ _ _ _ (fun _ _ => by show p < i * 7 ∨ _; omega)]
      exact hNR p v hp hpv
    · intro p v hpv
      obtain ⟨hp1, hp2⟩ := (List.getElem?_eq_some_iff.1 hpv)
      have hp3 := hp1
      rw [Qu.cs_len] at hp3
      rw [World.cell?_setCells_out _ _ _ _ _ (fun _ _ => by show i * 7 + p < (i + 1) * 7 ∨ _; omega)]
      show W2.cell? _ = _
      rw [hW2, World.cell?_setCells_in _ q.cs (i * 7) W1 (fun j hj => hN _ (by rw [Qu.cs_len] at hj; omega)) p hp1, hp2]
    · intro p v hpv
      rw [hF] at hpv
      obtain ⟨hp1, hp2⟩ := (List.getElem?_eq_some_iff.1 hpv)
      rw [World.cell?_setCells_in _ (F.drop (i * 7)) ((i + 1) * 7) W2.drew (fun j hj => hN2 _ (by rw [hdl] at hj; omega)) p hp1, hp2]
  clear hsb hkB hsp hfz hcs hvs hvf hsa hF hFl hF1 hdl hown hv hvw hold hROW hG hZl hRl hN hNR hNf hOg hOv hN2 hW1 hZ hi0 hz0 hzs hzb hkk hik
  have hz2 : ¬ ((i : Int) = (n : Int)) := by omega
  have hz3 : (cap : Int) < (n : Int) + 1 := by omega
  have hw1 : IntKind.i64.wrap ((i : Int) + 1) = (i : Int) + 1 := by rw [IntKind.wrap_i64]; omega
  have hb1 : (0 : Int) ≤ (i : Int) + 1 := by omega
  have hin : i ≤ n := by omega
  have htn : ((i : Int) + 1).toNat = i + 1 := by omega
  have hGi : ¬ (G = i) := by omega
  have hGim : ¬ (G = i + 1) := by omega
  have hci : ¬ (cap = i) := by omega
  have hb3 : (i : Int) ≤ (n : Int) := by omega
  clear hW2
  go_enter Try.func72, Try.ntmps72
  go_wp2_with fail
  have hb5 : (i : Int) + 1 ≤ (n : Int) + 1 := by omega
  have hb6 : (i : Int) + 1 ≤ (G : Int) := by omega
  have hb7 : (0 : Int) ≤ (i : Int) := by omega
  go_region_with fail
  all_goals go_wp2
  all_goals
    go_ret
    exact ⟨_, rfl, hQ.out, hB.out⟩

theorem insert_any (base g n cap vb i : Nat) (l : List Qu) (q : Qu) (w : World) (hown : OwnQ base w (.slice (some ⟨g, 0, none⟩) n cap) n l) (hb : base ≤ w.heap.size) (hv : w.heap[vb]? = some (boxQ q)) (hvg : vb ≠ g) (hn : n ≤ 64) (hi : i ≤ n) :
    Calls Try.prog 72 #[.slice (some ⟨g, 0, none⟩) n cap, .int .i64 (i : Int), .slice (some ⟨vb, 0, none⟩) 1 1] w fun e w' => ∃ v, e = .returned v ∧ NewQ base w' v (n + 1) (insQ l i q) ∧ Below base w w' := by
  by_cases h : i = n
  · subst h
    have e : insQ l i q = l ++ [q] := by unfold insQ; rw [List.take_of_length_le (by rw [hown.len]; omega), List.drop_of_length_le (by rw [hown.len]; omega)]
    rw [e]
    exact insert_end base g i cap vb l q w hown hb hv hn
  · by_cases hr : n + 1 ≤ cap
    · exact insert_shift base g n cap vb i l q w hown hb hv hvg hn (by omega) hr
    · exact insert_grow base g n cap vb i l q w hown hb hv hn (by omega) (by omega)

end Go.Proofs.Ytdomimpcjkajiaa
