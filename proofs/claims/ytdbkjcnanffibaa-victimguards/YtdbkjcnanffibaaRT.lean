/-
  Contracts of queue: the code's sums, where all uses are right.
-/
import Derived.Test.YtdbkjcnanffibaaRS
import Derived.Test.YtdbkjcnanffibaaQH
import Derived.RangeFuncLeaves
import Derived.RangeFuncNested
import Derived.Test.YtdbkjcnanffibaaHR
import Derived.Test.YtdbkjcnanffibaaRQ
import Derived.Laws.OwnMore
namespace Go.Proofs.Ytdbkjcnanffibaa
open Go.RowKit Go.Deep Go.Maps Go.Shelf
set_option linter.unusedVariables false
set_option linter.unusedSimpArgs false
attribute [local go_sem] Oper.semAt_some

/-- The marks that loops over iterators have left behind. -/
def Marks (lo : Nat) (W : World) : Nat → List Deferred → Prop
  | _, [] => True
  | hi, d :: ds => ∃ D, d = { target := .collected D, args := #[] } ∧ lo ≤ D ∧ D < hi ∧ W.heap[D]? = some (.deferred (some [])) ∧ Marks lo W D ds
theorem Marks.keep {lo : Nat} {W W' : World} : ∀ {ds : List Deferred} {hi : Nat}, Marks lo W hi ds → (∀ D, D < hi → W.heap[D]? = some (.deferred (some [])) → W'.heap[D]? = some (.deferred (some []))) → Marks lo W' hi ds := by
  intro ds
  induction ds with
  | nil => intro hi _ _; trivial
  | cons d ds ih =>
    rintro hi ⟨D, rfl, h1, h2, h3, h4⟩ hk
    exact ⟨D, rfl, h1, h2, hk D h2 h3, ih h4 (fun E hE he => hk E (by omega) he)⟩
theorem Marks.up {lo : Nat} {W : World} {ds : List Deferred} {hi hi' : Nat} (h : Marks lo W hi ds) (hle : hi ≤ hi') : Marks lo W hi' ds := by
  cases ds with
  | nil => trivial
  | cons d ds =>
    obtain ⟨D, rfl, h1, h2, h3, h4⟩ := h
    exact ⟨D, rfl, h1, by omega, h3, h4⟩
theorem Marks.below {lo : Nat} {W W' : World} {ds : List Deferred} {hi : Nat} (h : Marks lo W hi ds) (hh : hi ≤ W.heap.size) (hb : Below W.heap.size W W') : Marks lo W' hi ds :=
  h.keep (fun D hD he => (hb.block D (by omega)).trans he)
theorem Marks.others {lo : Nat} {W W' : World} {ds : List Deferred} {hi : Nat} (h : Marks lo W hi ds) (hk : KeepsOthers W W') : Marks lo W' hi ds :=
  h.keep (fun D hD he => hk.same D _ he rfl)
theorem Marks.own {β : Type} {lo hi B : Nat} {ds : List Deferred} (hh : hi ≤ B) : OwnFrom B (fun (_ : β) W => Marks lo W hi ds) := fun s A W row hs hg hr =>
  hs.keep (fun D hD he => by
    rw [hg.block D (Array.getElem?_eq_some_iff.1 he).1 (fun e => by have := (hr D e.symm).1; omega)]; exact he)
/-- The same, but that marks have been taken. -/
def Shut (lo : Nat) (W W' : World) : Prop := Below lo W W' ∧ ∀ (g : Nat) (o : Obj), W.heap[g]? = some o → o.isCells = true → W'.heap[g]? = some o
theorem Shut.refl (lo : Nat) (W : World) : Shut lo W W := ⟨Below.refl _ _, fun _ _ h _ => h⟩
theorem Shut.cell {lo : Nat} {W W' : World} (h : Shut lo W W') {a : Addr} {v : Value} (hc : W.cell? a = some v) : W'.cell? a = some v := by
  obtain ⟨o, ho, hk⟩ := cells_of_cell hc
  exact (World.cell?_of_block ((h.2 _ o ho hk).trans ho.symm)).trans hc
theorem leaves_marks {F : Fence} {n : Nat} {P : Program} {fn : Func} {tmps : Array Value} {R : Ending → World → Prop} (w : World) : ∀ (ds : List Deferred) (hi : Nat) (W : World), Marks w.heap.size W hi ds →
    (∀ W', Shut w.heap.size W W' → LeavesInM F n P fn tmps R [] .returning W') → LeavesInM F n P fn tmps R ds .returning W := by
  intro ds
  induction ds with
  | nil => intro hi W _ hK; exact hK W (Shut.refl _ _)
  | cons d ds ih =>
    rintro hi W ⟨D, rfl, h1, h2, h3, h4⟩ hK
    refine ⟨by simp, .inl ⟨D, _, rfl, run_takeDeferred h3, ?_⟩⟩
    refine ih D (W.putObj D (.deferred none)) (h4.keep (fun E hE he => by rw [World.putObj_heap_other (by omega)]; exact he)) (fun W' hW' => hK W' ⟨?_, fun g o hg ho => ?_⟩)
    · have hb := belowK_b (w := w) (Nat.le_refl _) W D _ (.deferred none) h1 h3 rfl rfl
      exact hb.trans hW'.1
    · refine hW'.2 g o ?_ ho
      have : g ≠ D := fun e => by subst e; rw [h3] at hg; cases hg; cases ho
      rw [World.putObj_heap_other (by omega)]; exact hg

/-- What the call's own boxes hold. -/
def BoxS (B lb off len cap mb : Nat) (W : World) : Prop :=
  W.cell? ⟨B, 0, none⟩ = some (.slice (some ⟨lb, off, none⟩) len cap) ∧ W.cell? ⟨B, 1, none⟩ = some (.map (some mb)) ∧ W.cell? ⟨B + 1, 0, none⟩ = some (.slice none 0 0) ∧ W.frozen? ⟨B + 1, 0, none⟩ = false ∧ W.cell? ⟨B + 1 + 1, 0, none⟩ = some (.int .i64 0) ∧ W.frozen? ⟨B + 1 + 1, 0, none⟩ = false
theorem BoxS.below {B lb off len cap mb : Nat} {W W' : World} (h : BoxS B lb off len cap mb W) (hb : Below W.heap.size W W') : BoxS B lb off len cap mb W' := by
  obtain ⟨h1, h2, h3, h4, h5, h6⟩ := h
  exact ⟨keepc hb h1, keepc hb h2, keepc hb h3, keepf hb h3 h4, keepc hb h5, keepf hb h5 h6⟩
theorem BoxS.own {β : Type} (B lb off len cap mb : Nat) : Own (fun (_ : β) W => BoxS B lb off len cap mb W) := fun s A W row hs hg hr => by
  obtain ⟨h1, h2, h3, h4, h5, h6⟩ := hs
  exact ⟨cell_kept h1 hg hr, cell_kept h2 hg hr, cell_kept h3 hg hr, (frozen_kept h3 hg hr).trans h4, cell_kept h5 hg hr, (frozen_kept h5 hg hr).trans h6⟩
theorem BoxS.put {B lb off len cap mb R o : Nat} {v : Value} {W : World} (h : BoxS B lb off len cap mb W) (h0 : B + 1 + 1 < R) : BoxS B lb off len cap mb (W.setCell ⟨R, o, none⟩ v) := by
  obtain ⟨h1, h2, h3, h4, h5, h6⟩ := h
  exact ⟨(World.cell?_setCell_other W _ _ _ (by simp <;> omega)).trans h1, (World.cell?_setCell_other W _ _ _ (by simp <;> omega)).trans h2, (World.cell?_setCell_other W _ _ _ (by simp <;> omega)).trans h3, by rw [World.frozen?_setCell]; exact h4, (World.cell?_setCell_other W _ _ _ (by simp <;> omega)).trans h5, by rw [World.frozen?_setCell]; exact h6⟩
/-- A row of pairs. -/
def RowF (W : World) (R n : Nat) (f : Nat → Int × Int) : Prop := ∀ j, j < n → W.cell? ⟨R, j * 2, none⟩ = some (.int .i64 (f j).1) ∧ W.cell? ⟨R, j * 2 + 1, none⟩ = some (.int .i64 (f j).2) ∧ W.frozen? ⟨R, j * 2, none⟩ = false ∧ W.frozen? ⟨R, j * 2 + 1, none⟩ = false
theorem RowF.below {W W' : World} {R n : Nat} {f : Nat → Int × Int} (h : RowF W R n f) (hb : Below W.heap.size W W') : RowF W' R n f := fun j hj => by
  obtain ⟨h1, h2, h3, h4⟩ := h j hj
  exact ⟨keepc hb h1, keepc hb h2, keepf hb h1 h3, keepf hb h2 h4⟩
theorem RowF.kept {R n : Nat} {f : Nat → Int × Int} {A W : World} {row : Option Nat} (h : RowF A R n f) (hg : A.grownBy W row) (hr : ∀ r, row = some r → ∃ o : Obj, A.heap[r]? = some o ∧ o.isCells = false) : RowF W R n f := fun j hj => by
  obtain ⟨h1, h2, h3, h4⟩ := h j hj
  exact ⟨cell_kept h1 hg hr, cell_kept h2 hg hr, (frozen_kept h1 hg hr).trans h3, (frozen_kept h2 hg hr).trans h4⟩
theorem RowF.set {W : World} {R n : Nat} {f g : Nat → Int × Int} (h : RowF W R n f) {x : Nat} {a b : Int} (hx : x < n) (hg : ∀ j, j < n → g j = if j = x then (a, b) else f j) : RowF ((W.setCell ⟨R, x * 2, none⟩ (.int .i64 a)).setCell ⟨R, x * 2 + 1, none⟩ (.int .i64 b)) R n g := fun j hj => by
  obtain ⟨h1, h2, h3, h4⟩ := h j hj
  obtain ⟨k1, k2, k3, k4⟩ := h x hx
  rw [hg j hj]
  by_cases e : j = x
  · subst e
    rw [if_pos rfl]
    refine ⟨?_, ?_, ?_, ?_⟩
    · rw [World.cell?_setCell_other _ _ _ _ (by simp)]
      exact World.cell?_setCell_same' _ _ _ (by rw [h1]; rfl)
    · exact World.cell?_setCell_same' _ _ _ (by rw [World.cell?_setCell_other _ _ _ _ (by simp), h2]; rfl)
    · rw [World.frozen?_setCell, World.frozen?_setCell]; exact h3
    · rw [World.frozen?_setCell, World.frozen?_setCell]; exact h4
  · rw [if_neg e]
    refine ⟨?_, ?_, ?_, ?_⟩
    · rw [World.cell?_setCell_other _ _ _ _ (by simp <;> omega), World.cell?_setCell_other _ _ _ _ (by simp <;> omega)]; exact h1
    · rw [World.cell?_setCell_other _ _ _ _ (by simp <;> omega), World.cell?_setCell_other _ _ _ _ (by simp <;> omega)]; exact h2
    · rw [World.frozen?_setCell, World.frozen?_setCell]; exact h3
    · rw [World.frozen?_setCell, World.frozen?_setCell]; exact h4
theorem RowF.holds {W : World} {R : Nat} {l : List Qu} {us : List Us} (h : RowF W R l.length (vecAt l us)) (hl : l.length ≤ 64) (hp : 0 < l.length) : HoldsV W (some ⟨R, 0, none⟩) l.length l.length (vecsTo l us l.length) := by
  refine ⟨vecsTo_len _ _ _, Nat.le_refl _, by omega, (fun e => by cases e), fun _ => ⟨R, 0, rfl, cell_lt (h 0 hp).1, fun j x hx i v hv => ?_⟩⟩
  have hj : j < l.length := by have := (List.getElem?_eq_some_iff.1 hx).1; rwa [vecsTo_len] at this
  have ex : x = vecAt l us j := by
    unfold vecsTo at hx
    rw [List.getElem?_map, List.getElem?_range hj] at hx
    simpa using hx.symm
  subst ex
  obtain ⟨h1, h2, _, _⟩ := h j hj
  rw [Nat.zero_add]
  match i, hv with
  | 0, hv => simp [encV] at hv; subst hv; exact h1
  | 1, hv => simp [encV] at hv; subst hv; exact h2
/-- An answer: nil, or a row of the call's own. -/
def AnsV (base : Nat) (w : World) (v : Value) (m : List (Int × Int)) : Prop := (m = [] ∧ v = .slice none 0 0) ∨ ∃ g c, v = .slice (some ⟨g, 0, none⟩) m.length c ∧ base ≤ g ∧ HoldsV w (some ⟨g, 0, none⟩) m.length c m
theorem AnsV.holds {base : Nat} {w : World} {v : Value} {m : List (Int × Int)} (h : AnsV base w v m) : ∃ a cap, v = .slice a m.length cap ∧ HoldsV w a m.length cap m := by
  rcases h with ⟨rfl, rfl⟩ | ⟨g, c, rfl, _, hh⟩
  · exact ⟨none, 0, rfl, rfl, Nat.le_refl _, by omega, fun _ => ⟨rfl, rfl⟩, fun h => absurd h (by simp)⟩
  · exact ⟨_, c, rfl, hh⟩
theorem AnsV.below {base : Nat} {w w' : World} {v : Value} {m : List (Int × Int)} (h : AnsV base w v m) (hb : Below w.heap.size w w') : AnsV base w' v m := by
  rcases h with h | ⟨g, c, rfl, hg, hh⟩
  · exact .inl h
  · exact .inr ⟨g, c, rfl, hg, hh.below hb⟩

theorem AnsV.weaken {base base' : Nat} {w : World} {v : Value} {m : List (Int × Int)} (h : AnsV base w v m) (hb : base' ≤ base) : AnsV base' w v m := by
  rcases h with h | ⟨g, c, rfl, hg, hh⟩
  · exact .inl h
  · exact .inr ⟨g, c, rfl, by omega, hh⟩

/-- A path goes down in its places. -/
theorem pth_count {l : List Qu} : ∀ (P i : Nat), (pth l P).count i ≤ 1 := by
  intro P
  induction P using Nat.strongRecOn with
  | _ P ih =>
    intro i
    by_cases h : pl l (qa l P).par < P
    · rw [pth_step h, List.count_cons]
      have h1 := ih _ h i
      by_cases e : P = i
      · subst e
        have : (pth l (pl l (qa l P).par)).count P = 0 := by
          rw [List.count_eq_zero]
          intro hm
          have := pth_le _ _ hm
          omega
        simp [this]
      · simp [e]; exact h1
    · rw [pth_root h, List.count_cons]
      simp
      split <;> omega
/-- What is summed when some places of the k-th use's path have come. -/
def curV (l : List Qu) (us : List Us) (k : Nat) (pre : List (Fin l.length)) (i : Nat) : Int × Int := ((vecAt l (us.take k) i).1 + ((pre.map (·.val)).count i : Int) * (ua us k).uc, (vecAt l (us.take k) i).2 + ((pre.map (·.val)).count i : Int) * (ua us k).um)
theorem curV_nil (l : List Qu) (us : List Us) (k i : Nat) : curV l us k [] i = vecAt l (us.take k) i := by simp [curV]
theorem curV_snoc (l : List Qu) (us : List Us) (k : Nat) (pre : List (Fin l.length)) (x : Fin l.length) (i : Nat) : curV l us k (pre ++ [x]) i = if i = x.val then ((curV l us k pre x.val).1 + (ua us k).uc, (curV l us k pre x.val).2 + (ua us k).um) else curV l us k pre i := by
  by_cases e : i = x.val
  · subst e
    rw [if_pos rfl]
    unfold curV
    simp only [List.map_append, List.map_cons, List.map_nil, List.count_append, List.count_singleton_self]
    rw [Int.natCast_add, Int.add_mul, Int.add_mul]
    simp only [Prod.mk.injEq]
    omega
  · rw [if_neg e]
    unfold curV
    simp only [List.map_append, List.map_cons, List.map_nil, List.count_append]
    rw [List.count_singleton, if_neg (by simpa using fun h => e h.symm)]
    simp
theorem curV_all {l : List Qu} {us : List Us} {k : Nat} (hk : k < us.length) (hi : pl l (ua us k).qu < l.length) (i : Nat) : curV l us k (pthF l (pl l (ua us k).qu) hi) i = vecAt l (us.take (k + 1)) i := by
  unfold curV
  rw [pthF_map, vecAt_snoc hk]
  have hc := pth_count (l := l) (pl l (ua us k).qu) i
  by_cases e : i ∈ pth l (pl l (ua us k).qu)
  · have : (pth l (pl l (ua us k).qu)).count i = 1 := by have := List.count_pos_iff.2 e; omega
    rw [this, if_pos e, if_pos e]; simp
  · rw [List.count_eq_zero.2 e, if_neg e, if_neg e]; simp
theorem curV_over {l : List Qu} {us : List Us} {k : Nat} (hA : ∀ u ∈ us, useE l u = 0) (hk : k < us.length) (hi : pl l (ua us k).qu < l.length) {pre : List (Fin l.length)} (hp : pre <+: pthF l (pl l (ua us k).qu) hi) {i : Nat} (hil : i < l.length) (ho : okv (curV l us k pre i) = false) : fitsB l us = false := by
  refine over_take hA (j := k + 1) hil ?_
  obtain ⟨_, _, hc, hm⟩ := useE_zero (hA _ (ua_mem hk))
  have h1 := sumU_take Us.uc l i k us (fun u hu => (useE_zero (hA u hu)).2.2.1.1)
  have h2 := sumU_take Us.um l i k us (fun u hu => (useE_zero (hA u hu)).2.2.2.1)
  have hle : (pre.map (·.val)).count i ≤ (pth l (pl l (ua us k).qu)).count i := by
    obtain ⟨r, hr⟩ := hp
    rw [← pthF_map _ hi, ← hr, List.map_append, List.count_append]; omega
  have hone := pth_count (l := l) (pl l (ua us k).qu) i
  rw [vecAt_snoc hk]
  unfold curV at ho
  unfold okp at hc hm
  by_cases e : i ∈ pth l (pl l (ua us k).qu)
  · rw [if_pos e, if_pos e]
    unfold okv okp vecAt at ho ⊢
    simp only [decide_eq_false_iff_not] at ho ⊢
    generalize (pre.map (·.val)).count i = c at *
    have : c = 0 ∨ c = 1 := by omega
    rcases this with rfl | rfl
    · simp at ho; simp; omega
    · simp at ho; simp; omega
  · rw [List.count_eq_zero.2 e] at hle
    have : (pre.map (·.val)).count i = 0 := by omega
    rw [this] at ho
    rw [if_neg e, if_neg e]
    simpa using ho

theorem okv_of {a b : Int} (h1 : okp a) (h2 : okp b) : okv (a, b) = true := by unfold okv; simp [h1, h2]
theorem HoldsE.moved {α : Type} {k : Nat} {enc : α → List Value} {w w' : World} {b off len cap : Nat} {l : List α} (h : HoldsE k enc w (some ⟨b, off, none⟩) len cap l) (hm : ∀ (x o : Nat) (v : Value), x = b → w.cell? ⟨x, o, none⟩ = some v → w'.cell? ⟨x, o, none⟩ = some v) (hs : w.heap.size ≤ w'.heap.size) : HoldsE k enc w' (some ⟨b, off, none⟩) len cap l := by
  obtain ⟨h1, h2, h3, h4, h5⟩ := h
  refine ⟨h1, h2, h3, h4, fun hp => ?_⟩
  obtain ⟨b', off', e, hlt, hc⟩ := h5 hp
  cases e
  exact ⟨b, off, rfl, by omega, fun j x hx i v hv => hm _ _ _ rfl (hc j x hx i v hv)⟩
theorem add_split {C M D K : Int} (h1 : okv (C, M) = true) (h2 : okv (D, K) = true) : ∃ V1 V2 ER : Int, ((okv (C + D, M + K) = true ∧ V1 = C + D ∧ V2 = M + K ∧ ER = 0) ∨ (okv (C + D, M + K) = false ∧ V1 = 0 ∧ V2 = 0 ∧ ER = 2)) ∧ ∀ w : World, Calls Try.prog 35 #[.agg #[.int .i64 C, .int .i64 M], .agg #[.int .i64 D, .int .i64 K]] w fun e w' => e = .returned (.tuple #[.agg #[.int .i64 V1, .int .i64 V2], .int .i64 ER]) ∧ Below w.heap.size w w' := by
  cases h3 : okv (C + D, M + K)
  · exact ⟨0, 0, 2, .inr ⟨rfl, rfl, rfl, rfl⟩, fun w => vadd_over C M D K w h1 h2 h3⟩
  · exact ⟨_, _, 0, .inl ⟨rfl, rfl, rfl, rfl⟩, fun w => vadd_ok C M D K w h1 h2 h3⟩
theorem infoV2 : ∃ i0 : TypeInfo, Try.prog.info? 32 = some i0 ∧ i0.zero = some (.agg #[.int .i64 0, .int .i64 0]) ∧ i0.size = 2 ∧ i0.bytes = 16 := info_parts infoV
/-- 'make([]api.Vec, n)'. -/
theorem make_vecs (n : Nat) (hn : n ≤ 64) : ∃ C : Array Value, (∀ j, j < n * 2 → C[j]? = some (.int .i64 0)) ∧ ∀ w : World, (Instr.makeSlice 47 (.int .i64 (n : Int)) (.int .i64 (n : Int))).run Try.prog w = .ok (.slice (some ⟨w.heap.size, 0, none⟩) n n) (w.alloc (.cells C 32)) := by
  obtain ⟨i0, hi, hz, hs, hb⟩ := infoV2
  refine ⟨madeCells #[.int .i64 0, .int .i64 0] (n * 2), fun j hj => ?_, fun w => ?_⟩
  · unfold madeCells
    rw [Array.getElem?_map, Array.getElem?_range, if_pos hj]
    have : j % 2 = 0 ∨ j % 2 = 1 := by omega
    rcases this with h | h <;> simp [h]
  · have := run_make (P := Try.prog) w 47 32 i0 _ Try.underlying47 hi hz .i64 .i64 n n (by omega) (Int.le_refl _) (by rw [hb]; omega) (by omega)
    simp only [Int.toNat_natCast, hs] at this
    exact this

set_option maxRecDepth 100000 in
set_option maxHeartbeats 8000000 in
theorem sums_good (lb off len cap mb : Nat) (l : List Qu) (ub : Option Addr) (n uc : Nat) (us : List Us) (w : World) (hT : Tree w lb off len cap mb l) (hu : HoldsU w ub n uc us) (hq : ∀ u ∈ us, I64 u.qu) (hA : ∀ u ∈ us, useE l u = 0) :
    CallsIn Fence.wide 5 Try.prog 32 #[tv lb off len cap mb, .slice ub n uc] w fun e W' => ∃ v, e = .returned (.tuple #[v, .int .i64 (halfE l us)]) ∧ AnsV w.heap.size W' v (halfR l us) ∧ Below w.heap.size w W' := by
  have HT := hid hT
  have HU := hid hu
  have HQ := hid hq
  have HA := hid hA
  have HL := hid hT.hlen
  have UL := hid hu.1
  have hcap := hT.hcap
  have hle := hT.hle
  have hpos := hT.pos
  have ucap := hu.2.1
  have ucm := hu.2.2.1
  have hlb := hT.row.1
  have hmb := hT.map.lt
  obtain ⟨C, hC, hmk⟩ := make_vecs len hle
  have CZ := hid hC
  clear hT hu hq hA hC
  refine callsIn_of_wp_marks Try.func32 rfl trivial ?_ rfl
  simp only [Try.ntmps32, List.size_toArray, List.length_cons, List.length_nil, Nat.reduceAdd, Nat.reduceSub, Array.replicate_succ, Array.replicate_zero, List.push_toArray, List.append_toArray, List.nil_append, List.cons_append]
  gi_wp2_with fail
  gi_loopw [17] (fun i wr => ∃ k : Nat, k ≤ n ∧ i = .int .i64 k ∧ Hid (BoxS w.heap.size lb off len cap mb wr) ∧ Hid (Below w.heap.size w wr) ∧ w.heap.size + 3 ≤ wr.heap.size) (fun i _ => n - (intOf i).toNat)
  case atStart => exact ⟨0, by omega, rfl, by unfold Hid BoxS; simp [go_sem], show Below _ _ _ from (by repeat (first | exact Below.refl _ _ | assumption | refine Below.alloc ?_ (by simp <;> omega) _ | refine Below.setCell ?_ (by simp <;> omega) _ | refine Below.drew ?_ | refine below_drewN ?_ _)), by simp⟩
  case round =>
    obtain ⟨k, hk, rfl, hS, hB, hsz⟩ := hrel
    by_cases hlt : k < n
    · have hlt' : k < us.length := by rw [UL.out]; exact hlt
      obtain ⟨vb, vo, rfl, hrow⟩ := HU.out.rowU (by omega)
      obtain ⟨c0, c1, c2⟩ := hrow k hlt
      replace c0 := keepc hB.out c0
      replace c1 := keepc hB.out c1
      replace c2 := keepc hB.out c2
      have UE := hid (HA.out _ (ua_mem hlt'))
      have UI := hid (HQ.out _ (ua_mem hlt'))
      obtain ⟨s1, s2, s3, s4, s5, s6⟩ := hS.out
      have ka : (0 : Int) ≤ (k : Int) := by omega
      have kb : (k : Int) < (n : Int) := by omega
      clear hrow s3 s4 s5 s6
      generalize ua us k = u at *
      obtain ⟨u1, u2, u3⟩ := u
      simp only at *
      have BA := hid (hB.out.alloc hB.out.size (.cells #[.int .i64 u1, .int .i64 u2, .int .i64 u3] 45))
      have SA := hid (hS.out.below ((Below.refl _ wr).alloc (Nat.le_refl _) (.cells #[.int .i64 u1, .int .i64 u2, .int .i64 u3] 45)))
      have t0 := keepc ((Below.refl _ wr).alloc (Nat.le_refl _) (.cells #[.int .i64 u1, .int .i64 u2, .int .i64 u3] 45)) s1
      have t1 := keepc ((Below.refl _ wr).alloc (Nat.le_refl _) (.cells #[.int .i64 u1, .int .i64 u2, .int .i64 u3] 45)) s2
      gi_wp2_with fail
      refine ⟨trivial, ?_⟩
      refine (callsIn_wide.2 (checkUse_any lb off len cap mb l ⟨u1, u2, u3⟩ _ (HT.out.below BA.out) UI.out)).mono ?_
      rintro e w1 ⟨rfl, b1⟩
      rw [UE.out]
      have B1 := hid (BA.out.trans (b1.mono BA.out.size))
      have S1 := hid (SA.out.below b1)
      have z1 := b1.size
      simp only [World.size_alloc] at z1
      clear b1 s1 s2 t0 t1 c0 c1 c2
      gi_wp2
      go_roundw
      case rel => exact ⟨k + 1, by omega, by go_num, S1, B1, by omega⟩
      case measure => simp [intOf]; omega
    · obtain ⟨s1, s2, s3, s4, s5, s6⟩ := hS.out
      clear s2 s3 s4 s5 s6
      have CM := hid hmk
      gi_wp2_with fail
      clear s1
      have hBr : Below wr.heap.size wr ((wr.alloc (.cells C 32)).alloc (.cells #[.slice (some ⟨wr.heap.size, 0, none⟩) len len] 47)) := ((Below.refl _ wr).alloc (Nat.le_refl _) _).alloc (by simp) _
      have S2 := hid (hS.out.below hBr)
      have B2 := hid (hB.out.trans (hBr.mono hB.out.size))
      have R2 : Hid (RowF ((wr.alloc (.cells C 32)).alloc (.cells #[.slice (some ⟨wr.heap.size, 0, none⟩) len len] 47)) wr.heap.size len (vecAt l (us.take 0))) := fun j hj => by
        have e0 : vecAt l (us.take 0) j = (0, 0) := rfl
        rw [e0]
        have h0 := CZ.out (j * 2) (by omega)
        have h1 := CZ.out (j * 2 + 1) (by omega)
        refine ⟨?_, ?_, ?_, ?_⟩ <;> simp [go_sem, h0, h1]
      have V2 : Hid (((wr.alloc (.cells C 32)).alloc (.cells #[.slice (some ⟨wr.heap.size, 0, none⟩) len len] 47)).cell? ⟨wr.heap.size + 1, 0, none⟩ = some (.slice (some ⟨wr.heap.size, 0, none⟩) len len)) := by unfold Hid; simp [go_sem]
      have z2 : ((wr.alloc (.cells C 32)).alloc (.cells #[.slice (some ⟨wr.heap.size, 0, none⟩) len len] 47)).heap.size = wr.heap.size + 2 := by simp
      generalize ((wr.alloc (.cells C 32)).alloc (.cells #[.slice (some ⟨wr.heap.size, 0, none⟩) len len] 47)) = W2 at *
      clear hS hB hBr CM hmk
      generalize wr.heap.size = R at *
      refine wpIn_loop (fun a' W' => ∃ (q : Nat) (ds : List Deferred) (x0 x3 x6 x7 x8 x10 x11 x12 x13 x14 x15 x16 x17 x18 x19 x20 x21 x22 x23 x24 x25 x26 x27 x28 x29 x30 x31 x34 x35 x36 x37 x38 x39 x40 x41 x42 x43 x44 x45 x46 x47 x48 x49 x50 x51 x52 x53 x54 x55 x56 x57 x58 x59 x60 x61 : Value), q ≤ n ∧ x34 = .int .i64 (q : Int) ∧ Hid (BoxS w.heap.size lb off len cap mb W') ∧ Hid (W'.cell? ⟨R + 1, 0, none⟩ = some (.slice (some ⟨R, 0, none⟩) len len)) ∧ Hid (RowF W' R len (vecAt l (us.take q))) ∧ Hid (∀ i, i < len → okv (vecAt l (us.take q) i) = true) ∧ Hid (Marks w.heap.size W' W'.heap.size ds) ∧ Hid (Below w.heap.size w W') ∧ a' = { tmps := #[x0, .slice ub n uc, .pointer (some ⟨w.heap.size, 0, none⟩), x3, .pointer (some ⟨w.heap.size + 1, 0, none⟩), .pointer (some ⟨w.heap.size + 1 + 1, 0, none⟩), x6, x7, x8, .pointer (some ⟨R + 1, 0, none⟩), x10, x11, x12, x13, x14, x15, x16, x17, x18, x19, x20, x21, x22, x23, x24, x25, x26, x27, x28, x29, x30, x31, .slice ub n uc, .int .i64 (n : Int), x34, x35, x36, x37, x38, x39, x40, x41, x42, x43, x44, x45, x46, x47, x48, x49, x50, x51, x52, x53, x54, x55, x56, x57, x58, x59, x60, x61], defers := ds }) (fun a' _ => n - (intOf (a'.tmps.getD 34 undef)).toNat) ?start ?rnd
      case start =>
        refine ⟨0, [], _, _, _, _, _, _, _, _, _, _, _, _, _, _, _, _, _, _, _, _, _, _, _, _, _, _, _, _, _, _, _, _, _, _, _, _, _, _, _, _, _, _, _, _, _, _, _, _, _, _, _, _, _, _, _, by omega, rfl, S2, V2, R2, fun i _ => by show okv (0, 0) = true; decide, trivial, B2, rfl⟩
      case rnd =>
        rintro a' W3 ⟨q, ds, x0, x3, x6, x7, x8, x10, x11, x12, x13, x14, x15, x16, x17, x18, x19, x20, x21, x22, x23, x24, x25, x26, x27, x28, x29, x30, x31, x34, x35, x36, x37, x38, x39, x40, x41, x42, x43, x44, x45, x46, x47, x48, x49, x50, x51, x52, x53, x54, x55, x56, x57, x58, x59, x60, x61, hqn, rfl, hS, hV, hR, hO, hM, hB, rfl⟩
        have hRs := cell_lt hV.out
        simp only at hRs
        by_cases hlt2 : q < n
        · have hlt' : q < us.length := by rw [UL.out]; exact hlt2
          obtain ⟨vb, vo, rfl, hrow⟩ := HU.out.rowU (by omega)
          obtain ⟨c0, c1, c2⟩ := hrow q hlt2
          replace c0 := keepc hB.out c0
          replace c1 := keepc hB.out c1
          replace c2 := keepc hB.out c2
          have hz := useE_zero (HA.out _ (ua_mem hlt'))
          have hi : pl l (ua us q).qu < l.length := of_decide_eq_true hz.1
          have IU := hid (okv_of hz.2.2.1 hz.2.2.2)
          obtain ⟨s1, s2, s3, s4, s5, s6⟩ := hS.out
          have ka : (0 : Int) ≤ (q : Int) := by omega
          have kb : (q : Int) < (n : Int) := by omega
          have t0 := keepc ((Below.refl _ W3).alloc (Nat.le_refl _) (.cells #[.int .i64 (ua us q).qu, .int .i64 (ua us q).uc, .int .i64 (ua us q).um] 45)) s1
          have t1 := keepc ((Below.refl _ W3).alloc (Nat.le_refl _) (.cells #[.int .i64 (ua us q).qu, .int .i64 (ua us q).uc, .int .i64 (ua us q).um] 45)) s2
          clear hrow hz s3 s4 s5 s6
          gi_wp2_with (refine ⟨trivial, ?_⟩; gi_at_call 46; refine (callsIn_wide.2 (up_mk _ _ _ _ _ _ _)).mono ?_; rintro e w' ⟨rfl, rfl⟩)
          clear t0 t1 s1 s2 c0 c1 c2
          have hB3 : Below W3.heap.size W3 (((W3.alloc (.cells #[.int .i64 (ua us q).qu, .int .i64 (ua us q).uc, .int .i64 (ua us q).um] 45)).alloc (.cells #[.slice (some ⟨lb, off, none⟩) len cap, .map (some mb)] 73)).alloc (.cells #[.int .i64 (ua us q).qu] 3)) := (((Below.refl _ W3).alloc (Nat.le_refl _) _).alloc (by simp) _).alloc (by simp <;> omega) _
          have hB0 := hB.out.trans (hB3.mono hB.out.size)
          have S0 := hS.out.below hB3
          have V0 := keepc hB3 hV.out
          have R0 := hR.out.below hB3
          have M0 := hM.out.below (Nat.le_refl _) hB3
          have d1 : (((W3.alloc (.cells #[.int .i64 (ua us q).qu, .int .i64 (ua us q).uc, .int .i64 (ua us q).um] 45)).alloc (.cells #[.slice (some ⟨lb, off, none⟩) len cap, .map (some mb)] 73)).alloc (.cells #[.int .i64 (ua us q).qu] 3)).cell? ⟨W3.heap.size, 1, none⟩ = some (.int .i64 (ua us q).uc) := by simp [go_sem]
          have d2 : (((W3.alloc (.cells #[.int .i64 (ua us q).qu, .int .i64 (ua us q).uc, .int .i64 (ua us q).um] 45)).alloc (.cells #[.slice (some ⟨lb, off, none⟩) len cap, .map (some mb)] 73)).alloc (.cells #[.int .i64 (ua us q).qu] 3)).cell? ⟨W3.heap.size, 2, none⟩ = some (.int .i64 (ua us q).um) := by simp [go_sem]
          have ct0 : (((W3.alloc (.cells #[.int .i64 (ua us q).qu, .int .i64 (ua us q).uc, .int .i64 (ua us q).um] 45)).alloc (.cells #[.slice (some ⟨lb, off, none⟩) len cap, .map (some mb)] 73)).alloc (.cells #[.int .i64 (ua us q).qu] 3)).cell? ⟨W3.heap.size + 1, 0, none⟩ = some (.slice (some ⟨lb, off, none⟩) len cap) := by simp [go_sem]
          have ct1 : (((W3.alloc (.cells #[.int .i64 (ua us q).qu, .int .i64 (ua us q).uc, .int .i64 (ua us q).um] 45)).alloc (.cells #[.slice (some ⟨lb, off, none⟩) len cap, .map (some mb)] 73)).alloc (.cells #[.int .i64 (ua us q).qu] 3)).cell? ⟨W3.heap.size + 1, 1, none⟩ = some (.map (some mb)) := by simp [go_sem]
          have ci : (((W3.alloc (.cells #[.int .i64 (ua us q).qu, .int .i64 (ua us q).uc, .int .i64 (ua us q).um] 45)).alloc (.cells #[.slice (some ⟨lb, off, none⟩) len cap, .map (some mb)] 73)).alloc (.cells #[.int .i64 (ua us q).qu] 3)).cell? ⟨W3.heap.size + 1 + 1, 0, none⟩ = some (.int .i64 (ua us q).qu) := by simp [go_sem]
          have hsz0 : (((W3.alloc (.cells #[.int .i64 (ua us q).qu, .int .i64 (ua us q).uc, .int .i64 (ua us q).um] 45)).alloc (.cells #[.slice (some ⟨lb, off, none⟩) len cap, .map (some mb)] 73)).alloc (.cells #[.int .i64 (ua us q).qu] 3)).heap.size = W3.heap.size + 3 := by simp
          have hT0 := HT.out.below hB0
          generalize (((W3.alloc (.cells #[.int .i64 (ua us q).qu, .int .i64 (ua us q).uc, .int .i64 (ua us q).um] 45)).alloc (.cells #[.slice (some ⟨lb, off, none⟩) len cap, .map (some mb)] 73)).alloc (.cells #[.int .i64 (ua us q).qu] 3)) = W0 at *
          refine wpIn_rangeFunc_ownF rfl (by omega) (gf := 59) (lb := #[.pointer (some ⟨W3.heap.size + 1 + 1, 0, none⟩), .pointer (some ⟨W3.heap.size + 1, 0, none⟩)]) rfl trivial (enters_of Try.func59 (by kernel_rfl) rfl)
            (up_stops 4 (by omega) R W0.heap.size (W3.heap.size + 1) (W3.heap.size + 1 + 1) lb off len cap mb l (ua us q).qu W0 hT0 hi ct0 ct1 ci (by omega) (by omega) (by omega) (by omega) (by omega) (by omega) (by omega) (by omega) (Nat.le_refl _)) kq_t (kq_b (Nat.le_refl _)) (Below.refl _ _) (fun _ => rfl)
            (fun pre W => (((∀ i, i < len → okv (curV l us q pre i) = true) ∧ RowF W R len (curV l us q pre) ∧ W.cell? ⟨R + 1, 0, none⟩ = some (.slice (some ⟨R, 0, none⟩) len len) ∧ BoxS w.heap.size lb off len cap mb W ∧ W.cell? ⟨W3.heap.size, 1, none⟩ = some (.int .i64 (ua us q).uc) ∧ W.cell? ⟨W3.heap.size, 2, none⟩ = some (.int .i64 (ua us q).um) ∧ W0.heap.size ≤ W.heap.size) ∧ Below w.heap.size w W) ∧ Marks w.heap.size W W3.heap.size ds)
            (fun j pre W => ((j = .ret ∧ (∃ i, i < l.length ∧ okv (curV l us q pre i) = false) ∧ W.cell? ⟨w.heap.size + 1, 0, none⟩ = some (.slice none 0 0) ∧ W.cell? ⟨w.heap.size + 1 + 1, 0, none⟩ = some (.int .i64 2)) ∧ Below w.heap.size w W) ∧ Marks w.heap.size W W3.heap.size ds)
            (OwnFrom.and (OwnFrom.and (Own.from (fun s A B row hs hg hr => ⟨hs.1, hs.2.1.kept hg hr, cell_kept hs.2.2.1 hg hr, BoxS.own _ _ _ _ _ _ s A B row hs.2.2.2.1 hg hr, cell_kept hs.2.2.2.2.1 hg hr, cell_kept hs.2.2.2.2.2.1 hg hr, Nat.le_trans hs.2.2.2.2.2.2 hg.size⟩) _) (ownFrom_below (Nat.le_refl _) (by omega))) (Marks.own (by omega)))
            (fun j => OwnFrom.and (OwnFrom.and (Own.from (fun s A B row hs hg hr => ⟨hs.1, hs.2.1, cell_kept hs.2.2.1 hg hr, cell_kept hs.2.2.2 hg hr⟩) _) (ownFrom_below (Nat.le_refl _) (by omega))) (Marks.own (by omega)))
            ⟨⟨⟨fun i hi => by rw [curV_nil]; exact hO.out i hi, fun j hj => by rw [curV_nil]; exact R0 j hj, V0, S0, d1, d2, Nat.le_refl _⟩, hB0⟩, M0⟩
            (fun x => { tmps := #[x0, .slice (some ⟨vb, vo, none⟩) n uc, .pointer (some ⟨w.heap.size, 0, none⟩), x3, .pointer (some ⟨w.heap.size + 1, 0, none⟩), .pointer (some ⟨w.heap.size + 1 + 1, 0, none⟩), x6, x7, x8, .pointer (some ⟨R + 1, 0, none⟩), x10, .pointer (some ⟨W3.heap.size, 0, none⟩), .int .i64 (x.val : Int), x13, x14, x15, x16, x17, x18, x19, x20, x21, x22, x23, x24, x25, x26, x27, x28, x29, x30, x31, .slice (some ⟨vb, vo, none⟩) n uc, .int .i64 (n : Int), .int .i64 (q : Int), .bool true, .pointer (some ⟨vb, vo + q * 3, none⟩), .agg #[.int .i64 (ua us q).qu, .int .i64 (ua us q).uc, .int .i64 (ua us q).um], .agg #[.slice (some ⟨lb, off, none⟩) len cap, .map (some mb)], .pointer (some ⟨W3.heap.size, 0, none⟩), .int .i64 (ua us q).qu, .func (.func 59) #[] #[.pointer (some ⟨W3.heap.size + 1 + 1, 0, none⟩), .pointer (some ⟨W3.heap.size + 1, 0, none⟩)], .int .i64 (x.val : Int), x43, x44, x45, x46, x47, x48, x49, x50, x51, x52, x53, x54, x55, x56, x57, x58, x59, x60, x61], defers := [] }) ?assign ?body ?done ?stop
          case assign =>
            intro lp x W K hK
            gi_wp2
            exact hK
          case body =>
            clear S0 V0 R0 M0 d1 d2 ct0 ct1 ci hT0 hB0 hB3 hS hV hR hO hM hB
            rintro lp pre x W ⟨⟨⟨hO, hRow, hVc, hBx, d1, d2, hsW⟩, hB⟩, hMk⟩ _
            have hxl : x.val < len := Nat.lt_of_lt_of_eq x.2 HL.out
            obtain ⟨a0, a1, f0, f1⟩ := hRow x.val hxl
            have h0 := hO x.val hxl
            have E := hid (curV_snoc l us q pre x)
            have HO := hid hO
            have HR := hid hRow
            have HX := hid hBx
            have HM := hid hMk
            obtain ⟨b1, b2, b3, b4, b5, b6⟩ := hBx
            have hv := IU.out
            have xb : (x.val : Int) < (len : Int) := by omega
            have xa : (0 : Int) ≤ (x.val : Int) := by omega
            have HB := hid hB
            clear hO hRow hMk b1 b2 hB IU
            generalize hcv : curV l us q pre x.val = cv at *
            obtain ⟨C1, M1⟩ := cv
            clear hcv
            generalize (ua us q).uc = D1 at *
            generalize (ua us q).um = K1 at *
            simp only at *
            have XL := hid x.2
            generalize hx : x.val = xi at *
            have HXi := hid hx
            clear hx
            have HAV := hid hVc
            have HA0 := hid a0
            have HA1 := hid a1
            have HF0 := hid f0
            have HF1 := hid f1
            have HD1 := hid d1
            have HD2 := hid d2
            have HB3 := hid b3
            have HB4 := hid b4
            have HB5 := hid b5
            have HB6 := hid b6
            obtain ⟨P1, P2, ER, hV, hadd⟩ := add_split h0 hv
            have HVV := hid hV
            have HAD := hid hadd
            clear hV hadd h0 hv b3 b4 b5 b6 f0 f1
            gi_wp2_with fail
            refine Code.wpIn_mono (Q := fun e a' w' => e = .normal ∧ ∃ (y43 y44 y45 y46 y47 y48 y49 y50 y51 y52 y53 y54 y55 y56 y57 y58 y59 y60 y61 : Value) (bx : Nat), W.heap.size ≤ bx ∧ Hid (Below W.heap.size W w') ∧ Hid (w'.cell? ⟨bx, 0, none⟩ = some (.int .i64 P1)) ∧ Hid (w'.cell? ⟨bx, 1, none⟩ = some (.int .i64 P2)) ∧ a' = { tmps := #[x0, .slice (some ⟨vb, vo, none⟩) n uc, .pointer (some ⟨w.heap.size, 0, none⟩), x3, .pointer (some ⟨w.heap.size + 1, 0, none⟩), .pointer (some ⟨w.heap.size + 1 + 1, 0, none⟩), x6, x7, x8, .pointer (some ⟨R + 1, 0, none⟩), x10, .pointer (some ⟨W3.heap.size, 0, none⟩), .int .i64 (xi : Int), .pointer (some ⟨bx, 0, none⟩), .int .i64 ER, x15, x16, x17, x18, x19, x20, x21, x22, x23, x24, x25, x26, x27, x28, x29, x30, x31, .slice (some ⟨vb, vo, none⟩) n uc, .int .i64 (n : Int), .int .i64 (q : Int), .bool true, .pointer (some ⟨vb, vo + q * 3, none⟩), .agg #[.int .i64 (ua us q).qu, .int .i64 D1, .int .i64 K1], .agg #[.slice (some ⟨lb, off, none⟩) len cap, .map (some mb)], .pointer (some ⟨W3.heap.size, 0, none⟩), .int .i64 (ua us q).qu, .func (.func 59) #[] #[.pointer (some ⟨W3.heap.size + 1 + 1, 0, none⟩), .pointer (some ⟨W3.heap.size + 1, 0, none⟩)], .int .i64 (xi : Int), y43, y44, y45, y46, y47, y48, y49, y50, y51, y52, y53, y54, y55, y56, y57, y58, y59, y60, y61], defers := [] }) ?imp ?reg
            case reg =>
              clear HF0 HF1 HB3 HB4 HB5 HB6 HVV HB HM HX HR HO E HXi HT HU HQ HA UL CZ S2 B2 R2 V2
              have e0 := drewc hVc
              have e1 := drewc a0
              have e2 := drewc a1
              have e3 := drewc d1
              have e4 := drewc d2
              have HH0 := hid hVc
              have HH1 := hid a0
              have HH2 := hid a1
              have HH3 := hid d1
              have HH4 := hid d2
              clear HAV HA0 HA1 HD1 HD2
              refine wpIn_round_held (S := (fun w' => w'.cell? ⟨R + 1, 0, none⟩ = some (.slice (some ⟨R, 0, none⟩) len len) ∧ w'.cell? ⟨R, xi * 2, none⟩ = some (.int .i64 C1) ∧ w'.cell? ⟨R, xi * 2 + 1, none⟩ = some (.int .i64 M1) ∧ w'.cell? ⟨W3.heap.size, 1, none⟩ = some (.int .i64 D1) ∧ w'.cell? ⟨W3.heap.size, 2, none⟩ = some (.int .i64 K1))) (by kernel_rfl) (by kernel_rfl) (fun h => by obtain ⟨_, _, h, _⟩ := h; cases h) ⟨e0, e1, e2, e3, e4⟩ (fun hHeld => ?_)
              have kW : Below W.heap.size W W.drew := (Below.refl _ W).drew
              clear hVc a0 a1 d1 d2
              refine wpAnyH_take (i := 0) (v := .slice (some ⟨R, 0, none⟩) len len) rfl (by kernel_rfl) (by kernel_rfl) (by kernel_rfl) (fun _ _ _ h => nomatch h.1) (Or.inl ⟨by rfl, ?_⟩) (by assumption) ?_
              · (intro w hSw; (try dsimp only at hSw); go_simp)
              (try simp only [Act.put, List.getElem_toArray, List.getElem_cons_succ, List.getElem_cons_zero, List.setIfInBounds_toArray, List.set_cons_zero, List.set_cons_succ])
              refine wpAnyH_take (i := 1) (v := .int .i64 (xi : Int)) rfl (by kernel_rfl) (by kernel_rfl) (by kernel_rfl) (fun _ _ _ h => nomatch h.1) (Or.inl ⟨by rfl, ?_⟩) (by assumption) ?_
              · (intro w hSw; (try dsimp only at hSw); go_simp)
              (try simp only [Act.put, List.getElem_toArray, List.getElem_cons_succ, List.getElem_cons_zero, List.setIfInBounds_toArray, List.set_cons_zero, List.set_cons_succ])
              refine wpAnyH_take (i := 2) (v := .pointer (some ⟨R, xi * 2, none⟩)) rfl (by kernel_rfl) (by kernel_rfl) (by kernel_rfl) (fun _ _ _ h => nomatch h.1) (Or.inl ⟨by rfl, ?_⟩) (by assumption) ?_
              · (intro w hSw; (try dsimp only at hSw); go_simp)
              (try simp only [Act.put, List.getElem_toArray, List.getElem_cons_succ, List.getElem_cons_zero, List.setIfInBounds_toArray, List.set_cons_zero, List.set_cons_succ])
              refine wpAnyH_take (i := 3) (v := .agg #[.int .i64 C1, .int .i64 M1]) rfl (by kernel_rfl) (by kernel_rfl) (by kernel_rfl) (fun _ _ _ h => nomatch h.1) (Or.inl ⟨by rfl, ?_⟩) (by assumption) ?_
              · (intro w hSw; (try dsimp only at hSw); go_simp)
              (try simp only [Act.put, List.getElem_toArray, List.getElem_cons_succ, List.getElem_cons_zero, List.setIfInBounds_toArray, List.set_cons_zero, List.set_cons_succ])
              refine wpAnyH_take (i := 4) (v := .pointer (some ⟨W3.heap.size, 1, none⟩)) rfl (by kernel_rfl) (by kernel_rfl) (by kernel_rfl) (fun _ _ _ h => nomatch h.1) (Or.inl ⟨by rfl, ?_⟩) (by assumption) ?_
              · (intro w hSw; (try dsimp only at hSw); go_simp)
              (try simp only [Act.put, List.getElem_toArray, List.getElem_cons_succ, List.getElem_cons_zero, List.setIfInBounds_toArray, List.set_cons_zero, List.set_cons_succ])
              refine wpAnyH_take (i := 5) (v := .agg #[.int .i64 D1, .int .i64 K1]) rfl (by kernel_rfl) (by kernel_rfl) (by kernel_rfl) (fun _ _ _ h => nomatch h.1) (Or.inl ⟨by rfl, ?_⟩) (by assumption) ?_
              · (intro w hSw; (try dsimp only at hSw); go_simp)
              (try simp only [Act.put, List.getElem_toArray, List.getElem_cons_succ, List.getElem_cons_zero, List.setIfInBounds_toArray, List.set_cons_zero, List.set_cons_succ])
              refine wpAnyH_ready (rs := [6, 10]) (by kernel_rfl) (by simp) ?_
              refine AllReadyH.cons rfl (fun K hK => ?_) (AllReadyH.cons rfl (fun K hK => ?_) AllReadyH.nil)
              · go_simp
                refine (HAD.out _).mono ?_
                rintro e w1 ⟨rfl, h1⟩
                have e0 := keepc h1 e0
                have e1 := keepc h1 e1
                have e2 := keepc h1 e2
                have e3 := keepc h1 e3
                have e4 := keepc h1 e4
                have k1 := kW.trans (h1.mono kW.size)
                clear h1 kW
                refine hK.out _ _ ⟨e0, e1, e2, e3, e4⟩ (fun hHeld => ?_)
                clear hK K
                (try simp only [Act.put, List.getElem_toArray, List.getElem_cons_succ, List.getElem_cons_zero, List.setIfInBounds_toArray, List.set_cons_zero, List.set_cons_succ])
                refine wpAnyH_take (i := 7) (v := .tuple #[.agg #[.int .i64 P1, .int .i64 P2], .int .i64 ER]) rfl (by kernel_rfl) (by kernel_rfl) (by kernel_rfl) (fun _ _ _ h => nomatch h.1) (Or.inl ⟨by rfl, ?_⟩) (by assumption) ?_
                · (intro w hSw; (try dsimp only at hSw); go_simp)
                (try simp only [Act.put, List.getElem_toArray, List.getElem_cons_succ, List.getElem_cons_zero, List.setIfInBounds_toArray, List.set_cons_zero, List.set_cons_succ])
                refine wpAnyH_take (i := 8) (v := .agg #[.int .i64 P1, .int .i64 P2]) rfl (by kernel_rfl) (by kernel_rfl) (by kernel_rfl) (fun _ _ _ h => nomatch h.1) (Or.inl ⟨by rfl, ?_⟩) (by assumption) ?_
                · (intro w hSw; (try dsimp only at hSw); go_simp)
                (try simp only [Act.put, List.getElem_toArray, List.getElem_cons_succ, List.getElem_cons_zero, List.setIfInBounds_toArray, List.set_cons_zero, List.set_cons_succ])
                refine wpAnyH_take (i := 9) (v := .int .i64 ER) rfl (by kernel_rfl) (by kernel_rfl) (by kernel_rfl) (fun _ _ _ h => nomatch h.1) (Or.inl ⟨by rfl, ?_⟩) (by assumption) ?_
                · (intro w hSw; (try dsimp only at hSw); go_simp)
                (try simp only [Act.put, List.getElem_toArray, List.getElem_cons_succ, List.getElem_cons_zero, List.setIfInBounds_toArray, List.set_cons_zero, List.set_cons_succ])
                refine wpAnyH_ready (rs := [10]) (by kernel_rfl) (by simp) ?_
                refine AllReadyH.cons rfl (fun K hK => ?_) AllReadyH.nil
                go_simp
                have kA : Below w1.heap.size w1 (w1.alloc (.cells #[.int .i64 0, .int .i64 0] 32)) := (Below.refl _ w1).alloc (Nat.le_refl _) _
                have e0 := keepc kA e0
                have e1 := keepc kA e1
                have e2 := keepc kA e2
                have e3 := keepc kA e3
                have e4 := keepc kA e4
                refine hK.out _ _ ⟨e0, e1, e2, e3, e4⟩ (fun hHeld => ?_)
                clear hK K
                (try simp only [Act.put, List.getElem_toArray, List.getElem_cons_succ, List.getElem_cons_zero, List.setIfInBounds_toArray, List.set_cons_zero, List.set_cons_succ])
                refine wpAnyH_ready (rs := [11]) (by kernel_rfl) (by simp) ?_
                refine AllReadyH.cons rfl (fun K hK => ?_) AllReadyH.nil
                go_simp
                have kB : Below W.heap.size W (w1.alloc (.cells #[.int .i64 P1, .int .i64 P2] 32)) := k1.alloc k1.size _
                clear e0 e1 e2 e3 e4
                have e0 := keepc kB HH0.out
                have e1 := keepc kB HH1.out
                have e2 := keepc kB HH2.out
                have e3 := keepc kB HH3.out
                have e4 := keepc kB HH4.out
                refine hK.out _ _ ⟨e0, e1, e2, e3, e4⟩ (fun hHeld => ?_)
                clear hK K
                (try simp only [Act.put, List.getElem_toArray, List.getElem_cons_succ, List.getElem_cons_zero, List.setIfInBounds_toArray, List.set_cons_zero, List.set_cons_succ])
                refine wpAnyH_take (i := 12) (v := .int .i64 ER) rfl (by kernel_rfl) (by kernel_rfl) (by kernel_rfl) (fun _ _ _ h => nomatch h.1) (Or.inl ⟨by rfl, ?_⟩) (by assumption) ?_
                · (intro w hSw; (try dsimp only at hSw); go_simp)
                (try simp only [Act.put, List.getElem_toArray, List.getElem_cons_succ, List.getElem_cons_zero, List.setIfInBounds_toArray, List.set_cons_zero, List.set_cons_succ])
                refine wpAnyH_done (by kernel_rfl) ?_ _
                exact ⟨rfl, _, _, _, _, _, _, _, _, _, _, _, _, _, _, _, _, _, _, _, _, k1.size, kB, hid (by simp [go_sem]), hid (by simp [go_sem]), rfl⟩
              · go_simp
                have kA : Below W.drew.heap.size W.drew (W.drew.alloc (.cells #[.int .i64 0, .int .i64 0] 32)) := (Below.refl _ W.drew).alloc (Nat.le_refl _) _
                have e0 := keepc kA e0
                have e1 := keepc kA e1
                have e2 := keepc kA e2
                have e3 := keepc kA e3
                have e4 := keepc kA e4
                have kW := kW.trans (kA.mono kW.size)
                clear kA
                refine hK.out _ _ ⟨e0, e1, e2, e3, e4⟩ (fun hHeld => ?_)
                clear hK K
                (try simp only [Act.put, List.getElem_toArray, List.getElem_cons_succ, List.getElem_cons_zero, List.setIfInBounds_toArray, List.set_cons_zero, List.set_cons_succ])
                refine wpAnyH_ready (rs := [6]) (by kernel_rfl) (by simp) ?_
                refine AllReadyH.cons rfl (fun K hK => ?_) AllReadyH.nil
                go_simp
                refine (HAD.out _).mono ?_
                rintro e w1 ⟨rfl, h1⟩
                have e0 := keepc h1 e0
                have e1 := keepc h1 e1
                have e2 := keepc h1 e2
                have e3 := keepc h1 e3
                have e4 := keepc h1 e4
                have k1 := kW.trans (h1.mono kW.size)
                have y0 := keepc h1 (a := ⟨W.heap.size, 0, none⟩) (v := .int .i64 0) (by simp [go_sem])
                have y1 := keepc h1 (a := ⟨W.heap.size, 1, none⟩) (v := .int .i64 0) (by simp [go_sem])
                have g0 := keepf h1 (a := ⟨W.heap.size, 0, none⟩) (v := .int .i64 0) (by simp [go_sem]) (by simp [go_sem])
                have g1 := keepf h1 (a := ⟨W.heap.size, 1, none⟩) (v := .int .i64 0) (by simp [go_sem]) (by simp [go_sem])
                clear h1 kW
                refine hK.out _ _ ⟨e0, e1, e2, e3, e4⟩ (fun hHeld => ?_)
                clear hK K
                (try simp only [Act.put, List.getElem_toArray, List.getElem_cons_succ, List.getElem_cons_zero, List.setIfInBounds_toArray, List.set_cons_zero, List.set_cons_succ])
                refine wpAnyH_take (i := 7) (v := .tuple #[.agg #[.int .i64 P1, .int .i64 P2], .int .i64 ER]) rfl (by kernel_rfl) (by kernel_rfl) (by kernel_rfl) (fun _ _ _ h => nomatch h.1) (Or.inl ⟨by rfl, ?_⟩) (by assumption) ?_
                · (intro w hSw; (try dsimp only at hSw); go_simp)
                (try simp only [Act.put, List.getElem_toArray, List.getElem_cons_succ, List.getElem_cons_zero, List.setIfInBounds_toArray, List.set_cons_zero, List.set_cons_succ])
                refine wpAnyH_take (i := 8) (v := .agg #[.int .i64 P1, .int .i64 P2]) rfl (by kernel_rfl) (by kernel_rfl) (by kernel_rfl) (fun _ _ _ h => nomatch h.1) (Or.inl ⟨by rfl, ?_⟩) (by assumption) ?_
                · (intro w hSw; (try dsimp only at hSw); go_simp)
                (try simp only [Act.put, List.getElem_toArray, List.getElem_cons_succ, List.getElem_cons_zero, List.setIfInBounds_toArray, List.set_cons_zero, List.set_cons_succ])
                refine wpAnyH_take (i := 9) (v := .int .i64 ER) rfl (by kernel_rfl) (by kernel_rfl) (by kernel_rfl) (fun _ _ _ h => nomatch h.1) (Or.inl ⟨by rfl, ?_⟩) (by assumption) ?_
                · (intro w hSw; (try dsimp only at hSw); go_simp)
                (try simp only [Act.put, List.getElem_toArray, List.getElem_cons_succ, List.getElem_cons_zero, List.setIfInBounds_toArray, List.set_cons_zero, List.set_cons_succ])
                refine wpAnyH_ready (rs := [11]) (by kernel_rfl) (by simp) ?_
                refine AllReadyH.cons rfl (fun K hK => ?_) AllReadyH.nil
                go_simp
                have kB : Below W.heap.size W ((w1.setCell ⟨W.heap.size, 0, none⟩ (.int .i64 P1)).setCell ⟨W.heap.size, 1, none⟩ (.int .i64 P2)) := (k1.setCell (p := ⟨W.heap.size, 0, none⟩) (Nat.le_refl _) (.int .i64 P1)).setCell (p := ⟨W.heap.size, 1, none⟩) (Nat.le_refl _) (.int .i64 P2)
                clear e0 e1 e2 e3 e4
                have e0 := keepc kB HH0.out
                have e1 := keepc kB HH1.out
                have e2 := keepc kB HH2.out
                have e3 := keepc kB HH3.out
                have e4 := keepc kB HH4.out
                refine hK.out _ _ ⟨e0, e1, e2, e3, e4⟩ (fun hHeld => ?_)
                clear hK K
                (try simp only [Act.put, List.getElem_toArray, List.getElem_cons_succ, List.getElem_cons_zero, List.setIfInBounds_toArray, List.set_cons_zero, List.set_cons_succ])
                refine wpAnyH_take (i := 12) (v := .int .i64 ER) rfl (by kernel_rfl) (by kernel_rfl) (by kernel_rfl) (fun _ _ _ h => nomatch h.1) (Or.inl ⟨by rfl, ?_⟩) (by assumption) ?_
                · (intro w hSw; (try dsimp only at hSw); go_simp)
                (try simp only [Act.put, List.getElem_toArray, List.getElem_cons_succ, List.getElem_cons_zero, List.setIfInBounds_toArray, List.set_cons_zero, List.set_cons_succ])
                refine wpAnyH_done (by kernel_rfl) ?_ _
                exact ⟨rfl, _, _, _, _, _, _, _, _, _, _, _, _, _, _, _, _, _, _, _, W.heap.size, Nat.le_refl _, kB, hid (by simp [go_sem, y0, y1]), hid (by simp [go_sem, y0, y1]), rfl⟩
            case imp =>
              rintro e a' wx ⟨rfl, y43, y44, y45, y46, y47, y48, y49, y50, y51, y52, y53, y54, y55, y56, y57, y58, y59, y60, y61, bx, hbx, k1, q0, q1, rfl⟩
              have hB1 := hid (HB.out.trans (k1.out.mono HB.out.size))
              have hs1 := k1.out.size
              have hbx1 := cell_lt q0.out
              simp only at hbx1
              clear a0 a1 hVc d1 d2
              rcases HVV.out with ⟨h3, rfl, rfl, rfl⟩ | ⟨h3, rfl, rfl, rfl⟩
              · have H3 := hid h3
                have z0 := keepc k1.out HA0.out
                have z1 := keepc k1.out HA1.out
                have z2 := keepf k1.out HA0.out HF0.out
                have z3 := keepf k1.out HA1.out HF1.out
                have z4 := keepc k1.out HAV.out
                have z7 := q0.out
                have z8 := q1.out
                clear HVV h3
                gi_wp2
                have KO := (keepsOthers_below' k1.out).trans ((KeepsOthers.setCell _ ⟨R, xi * 2, none⟩ (.int .i64 (C1 + D1))).trans (KeepsOthers.setCell _ ⟨R, xi * 2 + 1, none⟩ (.int .i64 (M1 + K1))))
                refine ⟨KO, kq_set2 (kq_below k1.out hsW), ⟨⟨?_, (HR.out.below k1.out).set hxl (fun j _ => by rw [E.out]), ?_, ((HX.out.below k1.out).put (by omega)).put (by omega), ?_, ?_, ?_⟩, (hB1.out.setCell (p := ⟨R, xi * 2, none⟩) (by simp <;> omega) _).setCell (p := ⟨R, xi * 2 + 1, none⟩) (by simp <;> omega) _⟩, HM.out.others KO⟩
                · intro i hi
                  rw [E.out]
                  split
                  · exact H3.out
                  · exact HO.out i hi
                · rw [World.cell?_setCell_other _ _ _ _ (by simp), World.cell?_setCell_other _ _ _ _ (by simp)]; exact z4
                · rw [World.cell?_setCell_other _ _ _ _ (by simp <;> omega), World.cell?_setCell_other _ _ _ _ (by simp <;> omega)]; exact keepc k1.out HD1.out
                · rw [World.cell?_setCell_other _ _ _ _ (by simp <;> omega), World.cell?_setCell_other _ _ _ _ (by simp <;> omega)]; exact keepc k1.out HD2.out
                · simp; omega
              · have H3 := hid h3
                have z3 := keepc k1.out HB3.out
                have z4 := keepf k1.out HB3.out HB4.out
                have z5 := keepc k1.out HB5.out
                have z6 := keepf k1.out HB5.out HB6.out
                clear HVV h3
                gi_wp2
                have KO := (keepsOthers_below' k1.out).trans ((KeepsOthers.setCell _ ⟨w.heap.size + 1, 0, none⟩ (.slice none 0 0)).trans (KeepsOthers.setCell _ ⟨w.heap.size + 1 + 1, 0, none⟩ (.int .i64 2)))
                refine ⟨KO, ⟨⟨rfl, ⟨x.val, x.2, by rw [E.out, if_pos HXi.out]; exact H3.out⟩, ?_, ?_⟩, (hB1.out.setCell (p := ⟨w.heap.size + 1, 0, none⟩) (by simp) _).setCell (p := ⟨w.heap.size + 1 + 1, 0, none⟩) (by simp <;> omega) _⟩, HM.out.others KO⟩
                · simp [go_sem, z3]
                · simp [go_sem, z5]
          case done =>
            rintro D ys W hD rfl ⟨⟨⟨hO, hRow, hVc, hBx, d1, d2, hsW⟩, hB⟩, hMk⟩ hK
            have hDW := (Array.getElem?_eq_some_iff.1 hK).1
            gi_wp2
            refine ⟨⟨q + 1, { target := .collected D, args := #[] } :: ds, _, _, _, _, _, _, _, _, _, _, _, _, _, _, _, _, _, _, _, _, _, _, _, _, _, _, _, _, _, _, _, _, _, _, _, _, _, _, _, _, _, _, _, _, _, _, _, _, _, _, _, _, _, _, _, by omega, by go_num, hBx, hVc, fun j hj => by rw [← curV_all hlt' hi j]; exact hRow j hj, fun i hj => by rw [← curV_all hlt' hi i]; exact hO i hj, ⟨D, rfl, by have := hB.size; omega, hDW, hK, hMk.up (by omega)⟩, hB, rfl⟩, ?_⟩
            simp [intOf]; omega
          case stop =>
            rintro D j pre W hD ⟨hp1, hp2⟩ ⟨⟨⟨rfl, ⟨i, hil, ho⟩, r1, r2⟩, hB⟩, hMk⟩ hK
            have hDW := (Array.getElem?_eq_some_iff.1 hK).1
            have hno := curV_over HA.out hlt' hi hp2 hil ho
            gi_wp2
            refine leaves_marks w ({ target := .collected D, args := #[] } :: ds) W.heap.size W ⟨D, rfl, by have := hB.size; omega, hDW, hK, hMk.up (by omega)⟩ (fun W' hW' => ?_)
            have r1' := hW'.cell r1
            have r2' := hW'.cell r2
            refine ⟨.tuple #[.slice none 0 0, .int .i64 2], ?_, _, by rw [halfE_no hno], .inl ⟨halfR_no hno, rfl⟩, hB.trans hW'.1⟩
            simp [results, Try.f32, go_sem, r1', r2']
        · have hnn : q = n := by omega
          have tk : us.take q = us := List.take_of_length_le (by rw [UL.out]; omega)
          rw [tk] at hR hO
          have hV' := hV.out
          obtain ⟨s1, s2, s3, s4, s5, s6⟩ := hS.out
          have hall := fitsB_yes (l := l) (us := us) (fun i hi => hO.out i (by rw [← HL.out]; exact hi))
          have HV := hid (RowF.holds (l := l) (by rw [HL.out]; exact hR.out) (by rw [HL.out]; exact hle) (by rw [HL.out]; exact hpos))
          clear s1 s2
          gi_wp2
          have KO := (KeepsOthers.setCell W3 ⟨w.heap.size + 1, 0, none⟩ (.slice (some ⟨R, 0, none⟩) len len)).trans (KeepsOthers.setCell _ ⟨w.heap.size + 1 + 1, 0, none⟩ (.int .i64 0))
          refine leaves_marks w _ W3.heap.size _ (hM.out.others KO) (fun W' hW' => ?_)
          have r1 := hW'.cell (a := ⟨w.heap.size + 1, 0, none⟩) (v := .slice (some ⟨R, 0, none⟩) len len) (by simp [go_sem, s3])
          have r2 := hW'.cell (a := ⟨w.heap.size + 1 + 1, 0, none⟩) (v := .int .i64 0) (by simp [go_sem, s5])
          have hB4 := (hB.out.setCell (p := ⟨w.heap.size + 1, 0, none⟩) (by simp) (.slice (some ⟨R, 0, none⟩) len len)).setCell (p := ⟨w.heap.size + 1 + 1, 0, none⟩) (by simp <;> omega) (.int .i64 0)
          refine ⟨.tuple #[.slice (some ⟨R, 0, none⟩) len len, .int .i64 0], ?_, _, by rw [halfE_yes hall], .inr ⟨R, len, ?_, by omega, ?_⟩, hB4.trans hW'.1⟩
          · simp [results, Try.f32, go_sem, r1, r2]
          · rw [halfR_yes hall, vecsTo_len, HL.out]
          · rw [halfR_yes hall, vecsTo_len]
            have hh := HV.out
            rw [HL.out] at hh ⊢
            refine hh.moved (fun b o v hb hc => hW'.cell ?_) (by have := hW'.1.size; simpa using this)
            rw [World.cell?_setCell_other _ _ _ _ (by simp <;> omega), World.cell?_setCell_other _ _ _ _ (by simp <;> omega)]
            exact hc

end Go.Proofs.Ytdbkjcnanffibaa
