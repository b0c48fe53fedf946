/-
  Contracts of stride: Insert.
-/
import Derived.Test.YtdenhpclopjjgaaGH
import Derived.Test.YtdenhpclopjjgaaHC
namespace Go.Proofs.Ytdenhpclopjjgaa
open Go.RowKit Go.Deep Go.Maps
set_option linter.unusedVariables false
set_option linter.unusedSimpArgs false
attribute [local go_sem ↓] appG_eq copG_eq

/-- A client in a block of its own. -/
abbrev boxC (q : Cl) : Obj := .cells #[.int .i64 q.id, .int .i64 q.tk, .int .i64 q.ps] 41
theorem boxC_cells {w : World} {vb : Nat} {q : Cl} (h : w.heap[vb]? = some (boxC q)) : (∀ j v, q.cs[j]? = some v → w.cell? ⟨vb, j, none⟩ = some v) ∧ (∀ j, w.frozen? ⟨vb, j, none⟩ = false) ∧ w.shape? vb = some (41, 3) ∧ vb < w.heap.size := by
  refine ⟨fun j v hj => ?_, fun j => ?_, ?_, (Array.getElem?_eq_some_iff.1 h).1⟩
  · rw [cell_of_row w vb j _ _ (0, 0) h, ← Array.getElem?_toList]
    exact hj
  · simp [World.frozen?, h]
  · simp [World.shape?, h]
theorem rowC_cells {w : World} {g n cap : Nat} {l : List Cl} (h : RowC w g n cap (ca l)) (hl : l.length = n) : (∃ k, w.shape? g = some (41, k) ∧ k = cap * 3) ∧ (∀ j, j < cap * 3 → (w.cell? ⟨g, j, none⟩).isSome = true) ∧ (∀ j, w.frozen? ⟨g, j, none⟩ = false) ∧ (∀ j v, (l.flatMap Cl.cs)[j]? = some v → w.cell? ⟨g, j, none⟩ = some v) ∧ n ≤ cap ∧ cap ≤ 9223372036854775807 ∧ g < w.heap.size := by
  obtain ⟨cur, h1, h2⟩ := h.hp
  have hm := h.mx
  unfold maxLen at hm
  exact ⟨⟨_, by simp [World.shape?, h1, h2], rfl⟩, fun j hj => h.isSome hj, h.fz, h.flat hl, h.le, by omega, h.lt⟩
theorem flatC_len (l : List Cl) : (l.flatMap Cl.cs).length = l.length * 3 := flat_len Cl.cs_len l
theorem flatC_one {l : List Cl} : ∀ v ∈ l.flatMap Cl.cs, v.oneCell' = true := fun v hv => by
  obtain ⟨x, _, hx⟩ := List.mem_flatMap.1 hv
  exact x.one v hx
theorem ins_row {W : World} {g n cap i : Nat} {l : List Cl} {q : Cl} (hl : l.length = n) (hi : i ≤ n) (hcap : n + 1 ≤ cap) (hmx : cap ≤ maxLen) (hs : ∃ cur : Array Value, W.heap[g]? = some (.cells cur 41 (0, 0)) ∧ cur.size = cap * 3)
    (h1 : ∀ p v, p < i * 3 → (l.flatMap Cl.cs)[p]? = some v → W.cell? ⟨g, p, none⟩ = some v) (h2 : ∀ p v, q.cs[p]? = some v → W.cell? ⟨g, i * 3 + p, none⟩ = some v) (h3 : ∀ p v, ((l.flatMap Cl.cs).drop (i * 3))[p]? = some v → W.cell? ⟨g, (i + 1) * 3 + p, none⟩ = some v) :
    RowC W g (n + 1) cap (ca (insC l i q)) := by
  refine RowC.mk' (by rw [insC_len (by omega), hl]) hcap hmx hs (fun p u hu => ?_)
  have hf : (insC l i q).flatMap Cl.cs = (l.flatMap Cl.cs).take (i * 3) ++ (q.cs ++ (l.flatMap Cl.cs).drop (i * 3)) := by
    unfold insC
    rw [List.flatMap_append, List.flatMap_cons, flat_take Cl.cs_len l (by omega), flat_drop Cl.cs_len l (by omega)]
  rw [hf] at hu
  have hlen : (l.flatMap Cl.cs).length = n * 3 := by rw [flatC_len, hl]
  have htl : ((l.flatMap Cl.cs).take (i * 3)).length = i * 3 := by rw [List.length_take, hlen]; omega
  rcases Nat.lt_or_ge p (i * 3) with hp | hp
  · rw [List.getElem?_append_left (by omega), List.getElem?_take, if_pos hp] at hu
    exact h1 p u hp hu
  · rw [List.getElem?_append_right (by omega), htl] at hu
    rcases Nat.lt_or_ge (p - i * 3) 3 with hq | hq
    · rw [List.getElem?_append_left (by rw [Cl.cs_len]; exact hq)] at hu
      have := h2 _ u hu
      rwa [show i * 3 + (p - i * 3) = p by omega] at this
    · rw [List.getElem?_append_right (by rw [Cl.cs_len]; exact hq), Cl.cs_len] at hu
      have := h3 _ u hu
      rwa [show (i + 1) * 3 + (p - i * 3 - 3) = p by omega] at this

set_option maxRecDepth 100000 in
set_option maxHeartbeats 4000000 in
theorem cins_shift (g n cap vb i : Nat) (l : List Cl) (q : Cl) (w : World) (hrow : RowC w g n cap (ca l)) (hl : l.length = n) (hv : w.heap[vb]? = some (boxC q)) (hvg : vb ≠ g) (hn : n ≤ 1024) (hi : i < n) (hroom : n + 1 ≤ cap) :
    Calls Try.prog 30 #[.slice (some ⟨g, 0, none⟩) n cap, .int .i64 (i : Int), .slice (some ⟨vb, 0, none⟩) 1 1] w fun e w' => ∃ g' cap', e = .returned (.slice (some ⟨g', 0, none⟩) (n + 1) cap') ∧ RowC w' g' (n + 1) cap' (ca (insC l i q)) ∧ Tn g g w w' ∧ (g' = g ∨ w.heap.size ≤ g') := by
  obtain ⟨⟨kB, hsb, hkB⟩, hsp, hfz, hcs, hnc, hc63, hgw⟩ := rowC_cells hrow hl
  have hshape := hrow.hp
  have hmx := hrow.mx
  obtain ⟨hvs, hvf, hsa, hvw⟩ := boxC_cells hv
  generalize hF : l.flatMap Cl.cs = F at *
  have hFl : F.length = n * 3 := by rw [← hF, flatC_len, hl]
  have hF1 : ∀ v ∈ F, v.oneCell' = true := by rw [← hF]; exact flatC_one
  have hdl : (F.drop (i * 3)).length = (n - i) * 3 := by rw [List.length_drop, hFl]; omega
  have hov : ∀ lb cb, (callFunc 42 #[.slice (some ⟨vb, 0, none⟩) 1 1, .slice (some ⟨g, (i + 1) * 3, none⟩) lb cb]).run Try.prog w = .ok (.value (.bool false)) w := fun lb cb => by
    rw [run_callFunc_extern Try.func42 (by kernel_rfl) (by kernel_rfl) (by kernel_rfl) (e := Extern.SlicesOverlaps.overlaps #[34, 34] #[4]) (by kernel_rfl),
      Lib.run_overlaps_apart w 34 4 41 Try.underlying34 3 Try.sizeOf41 ⟨vb, 0, none⟩ ⟨g, (i + 1) * 3, none⟩ 1 1 lb cb hvg 41 41 3 kB hsa hsb (by omega) (hvf 0) (hvf 3)]
    rfl
  have hcp1 : ∀ ty dc sc, (copG #[34, 34] ty #[.slice (some ⟨g, (i + 1) * 3, none⟩) (n - i) dc, .slice (some ⟨g, i * 3, none⟩) (n + 1 - i) sc]).run Try.prog w.drew = .ok (goInt (Nat.min (n + 1 - i) (n - i))) (w.drew.setCells g ((i + 1) * 3) (F.drop (i * 3))) := fun ty dc sc =>
    run_copy_k w.drew _ _ ty 41 3 g ((i + 1) * 3) (n - i) dc ⟨g, i * 3, none⟩ (n + 1 - i) sc (F.drop (i * 3)) Try.underlying34 sizeC (by rw [hdl]; simp only [Nat.min_def]; split <;> omega)
      (fun j v hj => by rw [Addr.add_lit]; exact hcs (i * 3 + j) v (by rwa [List.getElem?_drop] at hj))
      (fun j hj => hsp _ (by omega)) (fun j hj => hfz _) (fun v hv => hF1 v (List.mem_of_mem_drop hv))
  obtain ⟨W1, hW1⟩ : ∃ W1, W1 = w.drew.setCells g ((i + 1) * 3) (F.drop (i * 3)) := ⟨_, rfl⟩
  have hsp1 : ∀ k, k < cap * 3 → (W1.cell? ⟨g, k, none⟩).isSome = true := fun k hk => by
    rw [hW1]
    exact isSome_setC g (F.drop (i * 3)) ((i + 1) * 3) w.drew (fun j hj => hsp _ (by rw [hdl] at hj; omega)) k (hsp k hk)
  have hfz1 : ∀ k, W1.frozen? ⟨g, k, none⟩ = false := fun k => by rw [hW1, World.frozen?_setCells]; exact hfz k
  have hcp2 : ∀ ty dc, (copG #[34, 34] ty #[.slice (some ⟨g, i * 3, none⟩) (n + 1 - i) dc, .slice (some ⟨vb, 0, none⟩) 1 1]).run Try.prog W1 = .ok (goInt (Nat.min 1 (n + 1 - i))) (W1.setCells g (i * 3) q.cs) := fun ty dc =>
    run_copy_k W1 _ _ ty 41 3 g (i * 3) (n + 1 - i) dc ⟨vb, 0, none⟩ 1 1 q.cs Try.underlying34 sizeC (by rw [Cl.cs_len]; simp only [Nat.min_def]; split <;> omega)
      (fun j v hj => by
        rw [Addr.add_lit, Nat.zero_add, hW1, World.cell?_setCells_out g _ _ _ _ (fun h _ => absurd h hvg)]
        exact hvs j v hj)
      (fun j hj => hsp1 _ (by rw [Cl.cs_len] at hj; omega)) (fun j hj => hfz1 _) q.one
  have hB : Hid (Tn g g w (W1.setCells g (i * 3) q.cs)) := by
    rw [hW1]
    exact tn_setCells (tn_setCells (Tn.of (Below.refl _ w).drew) (.inl rfl)) (.inl rfl)
  have hN : Hid (RowC (W1.setCells g (i * 3) q.cs) g (n + 1) cap (ca (insC l i q))) := by
    refine ins_row hl (by omega) hroom hmx ?_ ?_ ?_ ?_
    · rw [hW1]
      exact shape_set (w := w) _ _ _ (shape_set (w := w) _ _ _ hshape)
    · intro p v hp hpv
      rw [hF] at hpv
      rw [World.cell?_setCells_out g _ _ _ _ (fun _ _ => by show p < i * 3 ∨ _; omega), hW1, World.cell?_setCells_out g _ _ _ _ (fun _ _ => by show p < (i + 1) * 3 ∨ _; omega)]
      exact hcs p v hpv
    · intro p v hpv
      have hp := (List.getElem?_eq_some_iff.1 hpv)
      obtain ⟨hp1, hp2⟩ := hp
      rw [World.cell?_setCells_in g q.cs (i * 3) W1 (fun j hj => hsp1 _ (by rw [Cl.cs_len] at hj; omega)) p hp1, hp2]
    · intro p v hpv
      rw [hF] at hpv
      obtain ⟨hp1, hp2⟩ := (List.getElem?_eq_some_iff.1 hpv)
      rw [World.cell?_setCells_out g _ _ _ _ (fun _ _ => by show _ ∨ i * 3 + q.cs.length ≤ _; rw [Cl.cs_len]; show _ ∨ i * 3 + 3 ≤ (i + 1) * 3 + p; omega), hW1, World.cell?_setCells_in g (F.drop (i * 3)) ((i + 1) * 3) w.drew (fun j hj => hsp _ (by omega)) p hp1, hp2]
  rw [← hW1] at hcp1
  clear hsb hkB hsp hfz hcs hvs hvf hsa hF hFl hF1 hdl hsp1 hfz1 hW1 hrow hshape hmx hv hvw
  have hz2 : ¬ ((i : Int) = (n : Int)) := by omega
  have hw1 : IntKind.i64.wrap ((i : Int) + 1) = (i : Int) + 1 := by rw [IntKind.wrap_i64]; omega
  have hb1 : (0 : Int) ≤ (i : Int) + 1 := by omega
  have hin : i ≤ n := by omega
  have htn : ((i : Int) + 1).toNat = i + 1 := by omega
  have hb2 : ¬ (cap = i + 1) := by omega
  have hb3 : (i : Int) ≤ (n : Int) + 1 := by omega
  have hb4 : ¬ (cap = i) := by omega
  go_enter Try.func30, Try.ntmps30
  go_wp2_with (simp only [hov])
  have hb5 : (i : Int) + 1 ≤ (n : Int) + 1 := by omega
  have hb6 : (i : Int) + 1 ≤ (cap : Int) := by omega
  have hb7 : (0 : Int) ≤ (i : Int) := by omega
  go_region_with fail
  all_goals go_wp2
  all_goals
    go_ret
    exact ⟨_, _, rfl, hN.out, hB.out, .inl rfl⟩

set_option maxRecDepth 100000 in
set_option maxHeartbeats 4000000 in
theorem cins_grow (g n cap vb i : Nat) (l : List Cl) (q : Cl) (w : World) (hrow : RowC w g n cap (ca l)) (hl : l.length = n) (hv : w.heap[vb]? = some (boxC q)) (hn : n ≤ 1024) (hi : i < n) (hroom : cap < n + 1) :
    Calls Try.prog 30 #[.slice (some ⟨g, 0, none⟩) n cap, .int .i64 (i : Int), .slice (some ⟨vb, 0, none⟩) 1 1] w fun e w' => ∃ g' cap', e = .returned (.slice (some ⟨g', 0, none⟩) (n + 1) cap') ∧ RowC w' g' (n + 1) cap' (ca (insC l i q)) ∧ Tn g g w w' ∧ (g' = g ∨ w.heap.size ≤ g') := by
  obtain ⟨⟨kB, hsb, hkB⟩, hsp, hfz, hcs, hnc, hc63, hgw⟩ := rowC_cells hrow hl
  obtain ⟨hvs, hvf, hsa, hvw⟩ := boxC_cells hv
  obtain ⟨i0, hi0, hz0, hzs, hzb⟩ := info_parts infoC
  generalize hF : l.flatMap Cl.cs = F at *
  have hFl : F.length = n * 3 := by rw [← hF, flatC_len, hl]
  have hF1 : ∀ v ∈ F, v.oneCell' = true := by rw [← hF]; exact flatC_one
  have hdl : (F.drop (i * 3)).length = (n - i) * 3 := by rw [List.length_drop, hFl]; omega
  have hik : i + (n + 1 - i) = n + 1 := by omega
  have hkk : (n : Int) + 1 - (i : Int) = ((n + 1 - i : Nat) : Int) := by omega
  have hold : (Builtin.firstCells i0.size i (.slice (some ⟨g, 0, none⟩) i cap)).run Try.prog w.drew = .ok (F.take (i * 3)).toArray w.drew := by
    rw [hzs]
    exact run_firstCells_some w.drew 3 i ⟨g, 0, none⟩ i cap (F.take (i * 3)) (by rw [List.length_take, hFl]; omega) (fun j v hj => by
      rw [Addr.add_lit, Nat.zero_add]
      rw [List.getElem?_take] at hj
      split at hj
      · exact hcs j v hj
      · cases hj)
  obtain ⟨G, hG⟩ : ∃ G, G = grownCap w (n + 1) cap 41 := ⟨_, rfl⟩
  obtain ⟨Z, hZ⟩ : ∃ Z : Value, Z = .agg #[.int .i64 0, .int .i64 0, .int .i64 0] := ⟨_, rfl⟩
  rw [← hZ] at hz0
  obtain ⟨ROW, hROW⟩ : ∃ ROW : Array Value, ROW = (F.take (i * 3)).toArray ++ Builtin.zeroCells Z.cells (n + 1 - i) ++ Builtin.zeroCells Z.cells (G - (n + 1)) := ⟨_, rfl⟩
  have hrz : ∀ ty, (appG #[34, 3] ty #[.slice (some ⟨g, 0, none⟩) i cap, .int .i64 ((n : Int) + 1 - (i : Int))]).run Try.prog w = .ok (.slice (some ⟨w.heap.size, 0, none⟩) (n + 1) G) ((w.alloc (.cells ROW 41)).drew) := fun ty => by
    have h := Lib.run_append_grow_zeros w 34 3 ty 41 i0 Z .i64 .i64 Try.underlying34 Try.underlying3 hi0 hz0 (some ⟨g, 0, none⟩) i cap (F.take (i * 3)) hold (n + 1 - i) (by omega) (by rw [hzs]; decide) (by omega) (by omega) (by rw [hzb]; omega) (by rw [hzb, hik]; exact growslice_fits hroom (by omega))
    rw [hik, ← hG, ← hROW] at h
    rw [hkk]
    exact h
  have hGn : n + 1 ≤ G := by rw [hG]; exact grownCap_ge w _ _ _
  have hG63 : G ≤ 9223372036854775807 := by
    have := grownCap_le_maxLen w (n + 1) cap 41 (by unfold maxLen; omega)
    rw [← hG] at this
    unfold maxLen at this
    omega
  have hZl : ∀ k, (Builtin.zeroCells Z.cells k).size = k * 3 := fun k => by rw [hZ]; simp [Builtin.zeroCells, Value.cells]
  have hRl : ROW.size = G * 3 := by
    rw [hROW]
    simp only [Array.size_append, hZl, List.size_toArray, List.length_take, hFl]
    omega
  obtain ⟨W1, hW1⟩ : ∃ W1, W1 = (w.alloc (.cells ROW 41)).drew := ⟨_, rfl⟩
  rw [← hW1] at hrz
  have hN : ∀ j, j < G * 3 → (W1.cell? ⟨w.heap.size, j, none⟩).isSome = true := fun j hj => by
    rw [hW1]
    show ((w.alloc (.cells ROW 41)).cell? ⟨w.heap.size, j, none⟩).isSome = true
    rw [World.cell?_alloc_at (w := w) ROW _ w.heap.size j rfl, Array.getElem?_eq_getElem (by omega)]; rfl
  have hNR : ∀ j v, j < i * 3 → F[j]? = some v → W1.cell? ⟨w.heap.size, j, none⟩ = some v := fun j v hj hv => by
    rw [hW1]
    show (w.alloc (.cells ROW 41)).cell? ⟨w.heap.size, j, none⟩ = some v
    rw [World.cell?_alloc_at (w := w) ROW _ w.heap.size j rfl, hROW, Array.append_assoc, Array.getElem?_append_left (by simp; omega)]
    simp [hj, hv]
  have hNf : ∀ j, W1.frozen? ⟨w.heap.size, j, none⟩ = false := fun j => by rw [hW1]; exact World.frozen?_alloc_at (w := w) ROW _ w.heap.size j rfl
  have hOg : ∀ j v, w.cell? ⟨g, j, none⟩ = some v → W1.cell? ⟨g, j, none⟩ = some v := fun j v h => by rw [hW1]; exact (World.cell?_alloc_past (w := w) _ g j hgw).trans h
  have hOv : ∀ j v, w.cell? ⟨vb, j, none⟩ = some v → W1.cell? ⟨vb, j, none⟩ = some v := fun j v h => by rw [hW1]; exact (World.cell?_alloc_past (w := w) _ vb j hvw).trans h
  have hcpA : ∀ ty dc, (copG #[34, 34] ty #[.slice (some ⟨w.heap.size, i * 3, none⟩) (n + 1 - i) dc, .slice (some ⟨vb, 0, none⟩) 1 1]).run Try.prog W1 = .ok (goInt (Nat.min 1 (n + 1 - i))) (W1.setCells w.heap.size (i * 3) q.cs) := fun ty dc =>
    run_copy_k W1 _ _ ty 41 3 w.heap.size (i * 3) (n + 1 - i) dc ⟨vb, 0, none⟩ 1 1 q.cs Try.underlying34 sizeC (by rw [Cl.cs_len]; simp only [Nat.min_def]; split <;> omega)
      (fun j v hj => by rw [Addr.add_lit, Nat.zero_add]; exact hOv _ v (hvs j v hj))
      (fun j hj => hN _ (by rw [Cl.cs_len] at hj; omega)) (fun j hj => hNf _) q.one
  obtain ⟨W2, hW2⟩ : ∃ W2, W2 = W1.setCells w.heap.size (i * 3) q.cs := ⟨_, rfl⟩
  rw [← hW2] at hcpA
  have hN2 : ∀ j, j < G * 3 → (W2.cell? ⟨w.heap.size, j, none⟩).isSome = true := fun j hj => by
    rw [hW2]
    exact isSome_setC _ q.cs (i * 3) W1 (fun t ht => hN _ (by rw [Cl.cs_len] at ht; omega)) j (hN j hj)
  have hgN : g ≠ w.heap.size := by omega
  have hcpB : ∀ ty dc sc, (copG #[34, 34] ty #[.slice (some ⟨w.heap.size, (i + 1) * 3, none⟩) (n - i) dc, .slice (some ⟨g, i * 3, none⟩) (n - i) sc]).run Try.prog W2.drew = .ok (goInt (Nat.min (n - i) (n - i))) (W2.drew.setCells w.heap.size ((i + 1) * 3) (F.drop (i * 3))) := fun ty dc sc =>
    run_copy_k W2.drew _ _ ty 41 3 w.heap.size ((i + 1) * 3) (n - i) dc ⟨g, i * 3, none⟩ (n - i) sc (F.drop (i * 3)) Try.underlying34 sizeC (by rw [hdl]; simp only [Nat.min_def]; split <;> omega)
      (fun j v hj => by
        show W2.cell? _ = _
        rw [Addr.add_lit, hW2, World.cell?_setCells_out _ _ _ _ _ (fun h _ => absurd h hgN)]
        exact hOg _ v (hcs (i * 3 + j) v (by rwa [List.getElem?_drop] at hj)))
      (fun j hj => hN2 _ (by rw [hdl] at hj; omega))
      (fun j hj => by show W2.frozen? _ = false; rw [hW2, World.frozen?_setCells]; exact hNf _) (fun v hv => hF1 v (List.mem_of_mem_drop hv))
  have hB : Hid (Tn g g w (W2.drew.setCells w.heap.size ((i + 1) * 3) (F.drop (i * 3)))) := by
    rw [hW2, hW1]
    have h1 : Tn g g w (((w.alloc (.cells ROW 41)).drew).setCells w.heap.size (i * 3) q.cs) := tn_setCells (Tn.of ((Below.refl _ w).alloc (Nat.le_refl _) _).drew) (.inr (.inr (Nat.le_refl _)))
    exact tn_setCells (⟨Below.drew h1.bel, h1.oth⟩ : Tn g g w ((((w.alloc (.cells ROW 41)).drew).setCells w.heap.size (i * 3) q.cs).drew)) (.inr (.inr (Nat.le_refl _)))
  have hQ : Hid (RowC (W2.drew.setCells w.heap.size ((i + 1) * 3) (F.drop (i * 3))) w.heap.size (n + 1) G (ca (insC l i q))) := by
    refine ins_row hl (by omega) hGn (by unfold maxLen; omega) ?_ ?_ ?_ ?_
    · rw [hW2, hW1]
      exact shape_set (w := w) _ _ _ (shape_set (w := w) (r := w.heap.size) (e := 41) (m := G * 3) q.cs (i * 3) ((w.alloc (.cells ROW 41)).drew) ⟨ROW, heap_alloc_new w _, hRl⟩)
    · intro p v hp hpv
      rw [hF] at hpv
      rw [World.cell?_setCells_out _ _ _ _ _ (fun _ _ => by show p < (i + 1) * 3 ∨ _; omega)]
      show W2.cell? _ = _
      rw [hW2, World.cell?_setCells_out _ _ _ _ _ (fun _ _ => by show p < i * 3 ∨ _; omega)]
      exact hNR p v hp hpv
    · intro p v hpv
      obtain ⟨hp1, hp2⟩ := (List.getElem?_eq_some_iff.1 hpv)
      have hp3 := hp1
      rw [Cl.cs_len] at hp3
      rw [World.cell?_setCells_out _ _ _ _ _ (fun _ _ => by show i * 3 + p < (i + 1) * 3 ∨ _; omega)]
      show W2.cell? _ = _
      rw [hW2, World.cell?_setCells_in _ q.cs (i * 3) W1 (fun j hj => hN _ (by rw [Cl.cs_len] at hj; omega)) p hp1, hp2]
    · intro p v hpv
      rw [hF] at hpv
      obtain ⟨hp1, hp2⟩ := (List.getElem?_eq_some_iff.1 hpv)
      rw [World.cell?_setCells_in _ (F.drop (i * 3)) ((i + 1) * 3) W2.drew (fun j hj => hN2 _ (by rw [hdl] at hj; omega)) p hp1, hp2]
  clear hsb hkB hsp hfz hcs hvs hvf hsa hF hFl hF1 hdl hrow hv hvw hold hROW hG hZl hRl hN hNR hNf hOg hOv hN2 hW1 hZ hi0 hz0 hzs hzb hkk hik
  have hz2 : ¬ ((i : Int) = (n : Int)) := by omega
  have hz3 : (cap : Int) < (n : Int) + 1 := by omega
  have hw1 : IntKind.i64.wrap ((i : Int) + 1) = (i : Int) + 1 := by rw [IntKind.wrap_i64]; omega
  have hb1 : (0 : Int) ≤ (i : Int) + 1 := by omega
  have hin : i ≤ n := by omega
  have htn : ((i : Int) + 1).toNat = i + 1 := by omega
  have hGi : ¬ (G = i) := by omega
  have hGim : ¬ (G = i + 1) := by omega
  have hci : ¬ (cap = i) := by omega
  have hb3 : (i : Int) ≤ (n : Int) := by omega
  clear hW2
  go_enter Try.func30, Try.ntmps30
  go_wp2_with fail
  have hb5 : (i : Int) + 1 ≤ (n : Int) + 1 := by omega
  have hb6 : (i : Int) + 1 ≤ (G : Int) := by omega
  have hb7 : (0 : Int) ≤ (i : Int) := by omega
  go_region_with fail
  all_goals go_wp2
  all_goals
    go_ret
    exact ⟨_, _, rfl, hQ.out, hB.out, .inr (Nat.le_refl _)⟩

set_option maxRecDepth 100000 in
set_option maxHeartbeats 4000000 in
theorem cins_end (g n cap vb : Nat) (a : Option Addr) (l : List Cl) (q : Cl) (w : World) (hown : OwnC 0 w (.slice a n cap) n l) (ha : a = none ∨ a = some ⟨g, 0, none⟩) (hv : w.heap[vb]? = some (boxC q)) (hn : n ≤ 1024) :
    Calls Try.prog 30 #[.slice a n cap, .int .i64 (n : Int), .slice (some ⟨vb, 0, none⟩) 1 1] w fun e w' => ∃ g' cap', e = .returned (.slice (some ⟨g', 0, none⟩) (n + 1) cap') ∧ RowC w' g' (n + 1) cap' (ca (l ++ [q])) ∧ Tn g g w w' ∧ (g' = g ∨ w.heap.size ≤ g') := by
  obtain ⟨v', w', hrun, h2, h3, _, h5⟩ := (by
    obtain ⟨i0, hi, hz0, hz1, hz2⟩ := info_parts infoC
    exact run_append_own_at (P := Try.prog) w 0 34 34 41 i0 _ 3 24 Try.underlying34 hi hz0 hz1 hz2 rfl (by decide) _ n _ hown.2 ⟨vb, 0, none⟩ 1 1 q.cs rfl (fun j u hj => by rw [Addr.add_lit, Nat.zero_add]; exact (boxC_cells hv).1 j u hj) q.one (by unfold maxLen; omega) (by omega) (Nat.zero_le _) : ∃ v' w', _)
  have hO : OwnC 0 w' v' (n + 1) (l ++ [q]) := ⟨by simp [hown.len], by simpa using h2⟩
  have hB : Hid (Tn g g w w') := ⟨(Below.refl 0 w).grown h3 (Nat.zero_le _) (fun _ _ => Nat.zero_le _), fun k hk h1 _ => h3.block k hk (fun e => by
    rcases ha with rfl | rfl
    · simp [Value.ownBlock] at e
    · simp [Value.ownBlock] at e; omega)⟩
  obtain ⟨g', cap', rfl⟩ := ownsRow_succ hO.2
  have hN : Hid (RowC w' g' (n + 1) cap' (ca (l ++ [q]))) := OwnC.row hO
  have hG : Hid (g' = g ∨ w.heap.size ≤ g') := by
    rcases h5 with h5 | h5
    · rcases ha with rfl | rfl
      · simp [Value.ownBlock] at h5
      · simp [Value.ownBlock] at h5; exact .inl h5
    · simp [Value.ownBlock] at h5; exact .inr (by omega)
  have hcap : n ≤ cap := (hown.holds Cl.cs_len).2.1
  have hnil : ∀ x, a = some x → True := fun _ _ => trivial
  rw [appG_eq] at hrun
  clear h2 h3 h5 hO hown hv
  have hb3 : (n : Int) ≤ (cap : Int) := by omega
  cases a with
  | none =>
    go_enter Try.func30, Try.ntmps30
    go_wp2
    all_goals
      go_ret
      exact ⟨_, _, rfl, hN.out, hB.out, hG.out⟩
  | some ad =>
    go_enter Try.func30, Try.ntmps30
    go_wp2
    all_goals
      go_ret
      exact ⟨_, _, rfl, hN.out, hB.out, hG.out⟩

end Go.Proofs.Ytdenhpclopjjgaa
