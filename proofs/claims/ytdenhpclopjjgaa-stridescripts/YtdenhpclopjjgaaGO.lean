/-
  Calls of a group that come in; groups that they make; first calls.
-/
import Derived.Test.YtdenhpclopjjgaaGN
namespace Go.Proofs.Ytdenhpclopjjgaa
open Go.RowKit Go.Deep Go.Maps
set_option linter.unusedVariables false
set_option linter.unusedSimpArgs false

/-- A call of a group. -/
structure Oc where
  kd : Int
  id : Int
  tk : Int
  rm : Int
  nn : Int
def Oc.cs (x : Oc) : List Value := [.int .i64 x.kd, .int .i64 x.id, .int .i64 x.tk, .int .i64 x.rm, .int .i64 x.nn]
def Oc.ok (x : Oc) : Prop := I64 x.kd ∧ I64 x.id ∧ I64 x.tk ∧ I64 x.rm ∧ I64 x.nn
theorem Oc.cs_len (x : Oc) : x.cs.length = 5 := rfl
def oc0 : Oc := ⟨0, 0, 0, 0, 0⟩
instance : Inhabited Oc := ⟨oc0⟩
def oa (l : List Oc) (i : Nat) : Oc := l[i]?.getD oc0
theorem oa_get {l : List Oc} {i : Nat} (h : i < l.length) : l[i]? = some (oa l i) := by unfold oa; rw [List.getElem?_eq_getElem h]; rfl
theorem oa_mem {l : List Oc} {i : Nat} (h : i < l.length) : oa l i ∈ l := List.mem_of_getElem? (oa_get h)
abbrev HoldsO (w : World) (a : Option Addr) (len cap : Nat) (l : List Oc) : Prop := HoldsE 5 Oc.cs w a len cap l
theorem HoldsE.rowO {w : World} {a : Option Addr} {len cap : Nat} {l : List Oc} (h : HoldsO w a len cap l) (hp : 0 < len) : ∃ b off, a = some ⟨b, off, none⟩ ∧ ∀ j, j < len → w.cell? ⟨b, off + j * 5, none⟩ = some (.int .i64 (oa l j).kd) ∧ w.cell? ⟨b, off + j * 5 + 1, none⟩ = some (.int .i64 (oa l j).id) ∧ w.cell? ⟨b, off + j * 5 + 2, none⟩ = some (.int .i64 (oa l j).tk) ∧ w.cell? ⟨b, off + j * 5 + 3, none⟩ = some (.int .i64 (oa l j).rm) ∧ w.cell? ⟨b, off + j * 5 + 4, none⟩ = some (.int .i64 (oa l j).nn) := by
  obtain ⟨h1, h2, h3, h4, h5⟩ := h
  obtain ⟨b, off, e, hlt, hc⟩ := h5 hp
  refine ⟨b, off, e, fun j hj => ?_⟩
  have hh := hc j _ (oa_get (by omega))
  exact ⟨hh 0 _ rfl, hh 1 _ rfl, hh 2 _ rfl, hh 3 _ rfl, hh 4 _ rfl⟩

section
open Go.ChangeShapes Go.WideShapes Go.ChangeAt
variable {H : Type} {enc : TypeId × Value → H} {w : World} {base b0 : Nat} {spare : Nat → Bool} {held : Bool} {r : Reach} {v : Value} {d : DataW H} {p : List MemPlace} {fuel : Nat} {cs : List Value} {x : DataW H × List MemPlace}
set_option maxRecDepth 100000 in
theorem trod_op (h : DataW.trod enc Try.prog w base spare held fuel 28 cs = some x) : ∃ q : Oc, cs = q.cs ∧ q.ok := by
  obtain ⟨xs, n, _, _, hl, hx, hf⟩ := DataW.trod_struct Try.underlying28 h
  have hc : Try.prog.cellsOf 28 = 5 := by kernel_rfl
  have hc1 : Try.prog.cellsOf 2 = 1 := by kernel_rfl
  have hc2 : Try.prog.cellsOf 3 = 1 := by kernel_rfl
  rw [hc] at hl
  match cs, hl with
  | [c0, c1, c2, c3, c4], _ =>
    have f0 := hf 0 _ rfl
    have f1 := hf 1 _ rfl
    have f2 := hf 2 _ rfl
    have f3 := hf 3 _ rfl
    have f4 := hf 4 _ rfl
    simp only [List.getElem_toArray, List.getElem_cons_zero, List.getElem_cons_succ] at f0 f1 f2 f3 f4
    rw [hc2] at f0 f1 f2 f4
    rw [hc1] at f3
    rw [List.getElem?_eq_getElem (by rw [hx]; decide)] at f0 f1 f2 f3 f4
    obtain ⟨a, e0, _, w0⟩ := DataW.trod_int Try.underlying3 f0
    obtain ⟨b, e1, _, w1⟩ := DataW.trod_int Try.underlying3 f1
    obtain ⟨c, e2, _, w2⟩ := DataW.trod_int Try.underlying3 f2
    obtain ⟨d, e3, _, w3⟩ := DataW.trod_int Try.underlying2 f3
    obtain ⟨e, e4, _, w4⟩ := DataW.trod_int Try.underlying3 f4
    simp at e0 e1 e2 e3 e4
    subst e0 e1 e2 e3 e4
    exact ⟨⟨a, b, c, d, e⟩, rfl, bounds_i64 w0, bounds_i64 w1, bounds_i64 w2, bounds_i64 w3, bounds_i64 w4⟩
end

/-- What a call makes of the clients. -/
def opM (l : List Cl) (o : Oc) : List Cl := if o.kd = 0 then joinM l o.id o.tk o.rm else if o.kd = 1 then leaveM l o.id else if o.kd = 2 then changeM l o.id o.tk else if o.kd = 3 then pickM l else l
theorem Gr.step {l : List Cl} (h : Gr l) {o : Oc} (ho : o.ok) : Gr (opM l o) := by
  unfold opM
  split
  · exact h.join ho.2.1
  · split
    · exact h.leave _
    · split
      · exact h.change _ _
      · split
        · exact h.pick
        · exact h
def mks (ops : List Oc) (k : Nat) : List Cl := (ops.take k).foldl opM []
theorem mks_succ {ops : List Oc} {k : Nat} (h : k < ops.length) : mks ops (k + 1) = opM (mks ops k) (oa ops k) := by
  unfold mks
  rw [List.take_add_one, oa_get h, List.foldl_append]; rfl
theorem Gr.mks {ops : List Oc} (ho : ∀ o ∈ ops, o.ok) (k : Nat) : Gr (mks ops k) := by
  induction k with
  | zero => exact Gr.nil
  | succ k ih =>
    by_cases h : k < ops.length
    · rw [mks_succ h]; exact ih.step (ho _ (oa_mem h))
    · unfold Go.Proofs.Ytdenhpclopjjgaa.mks at *
      rw [List.take_of_length_le (by omega)]
      rwa [List.take_of_length_le (by omega)] at ih
theorem mks_len {ops : List Oc} {k : Nat} (h : ops.length ≤ k) : mks ops k = mks ops ops.length := by unfold mks; rw [List.take_of_length_le h, List.take_length]
def madeM (ops : List Oc) : List Cl := mks ops 300
theorem Gr.made {ops : List Oc} (ho : ∀ o ∈ ops, o.ok) : Gr (madeM ops) := Gr.mks ho _

set_option maxRecDepth 100000 in
set_option maxHeartbeats 8000000 in
theorem made_any (a : Option Addr) (len cap : Nat) (ops : List Oc) (w : World) (h : HoldsO w a len cap ops) (ho : ∀ o ∈ ops, o.ok) :
    Calls Try.prog 13 #[.slice a len cap] w fun e w' => ∃ gb r, e = .returned (gp gb) ∧ Grp w' gb r (madeM ops) ∧ w.heap.size ≤ gb ∧ w.heap.size ≤ r ∧ Below w.heap.size w w' := by
  have HH := hid h
  have HL := hid h.1
  have HO := hid ho
  have hcap := h.2.1
  clear h ho
  go_enter Try.func13, Try.ntmps13
  go_wp2_with fail
  refine (new_any w).mono ?_
  rintro e w1 ⟨gb, rfl, g1, hgb, b1⟩
  have G1 := hid g1
  have B1 := hid b1
  clear g1 b1
  go_wp2_with fail
  go_loopw [9] (fun v wr => ∃ k r : Nat, k ≤ len ∧ k ≤ 300 ∧ v = .int .i64 (k : Int) ∧ Hid (Grp wr gb r (mks ops k)) ∧ w.heap.size ≤ r ∧ Hid (Below w.heap.size w wr)) (fun v _ => len - (intOf v).toNat)
  case atStart => exact ⟨0, gb, by omega, by omega, rfl, G1.out, hgb, B1.out⟩
  case round =>
    obtain ⟨k, r, hk, hk3, rfl, hG, hr, hB⟩ := hrel
    by_cases hlt : k < len
    · have hlt' : k < ops.length := by rw [HL.out]; exact hlt
      obtain ⟨b, off, rfl, R⟩ := HH.out.rowO (by omega)
      obtain ⟨c0, c1, c2, c3, c4⟩ := R k hlt
      replace c0 := keepc hB.out c0
      replace c1 := keepc hB.out c1
      replace c2 := keepc hB.out c2
      replace c3 := keepc hB.out c3
      replace c4 := keepc hB.out c4
      clear R
      have hok := HO.out _ (oa_mem hlt')
      have MS := hid (mks_succ hlt')
      have GR := hid (Gr.mks HO.out k)
      have ka : (0 : Int) ≤ (k : Int) := by omega
      have kb : (k : Int) < (len : Int) := by omega
      have hi := hok.2.1
      unfold opM at MS
      generalize oa ops k = o at *
      obtain ⟨kd, id, tk, rm, nn⟩ := o
      simp only at *
      clear hok
      by_cases h3 : k = 300
      · have t3 : decide ((300 : Int) ≤ (k : Int)) = true := by simp; omega
        subst h3
        have B3 : Hid (Below w.heap.size w (wr.alloc (.cells #[.int .i64 kd, .int .i64 id, .int .i64 tk, .int .i64 rm, .int .i64 nn] 28))) := hB.out.alloc hB.out.size _
        have G2 := hid (hG.out.below ((Below.refl _ _).alloc (Nat.le_refl _) (.cells #[.int .i64 kd, .int .i64 id, .int .i64 tk, .int .i64 rm, .int .i64 nn] 28)))
        clear MS
        go_wp2
        go_ret
        exact ⟨gb, r, rfl, G2.out, hgb, hr, B3.out⟩
      have t3 : decide ((300 : Int) ≤ (k : Int)) = false := by simp; omega
      have hk300 : k < 300 := by omega
      clear h3
      by_cases e0 : kd = 0
      · subst e0
        have B3 : Hid (Below wr.heap.size wr (wr.alloc (.cells #[.int .i64 0, .int .i64 id, .int .i64 tk, .int .i64 rm, .int .i64 nn] 28))) := (Below.refl _ _).alloc (Nat.le_refl _) _
        have G2 := hG.out.below B3.out
        simp only [if_true, if_false] at MS
        go_wp2_with fail
        refine (join_any gb r _ id tk rm (wr.alloc (.cells #[.int .i64 0, .int .i64 id, .int .i64 tk, .int .i64 rm, .int .i64 nn] 28)) G2 GR.out hi).mono ?_
        rintro e w3 ⟨r3, rfl, G3, T3, P3⟩
        have T := (Tn.of B3.out).trans T3 (.inl rfl)
        have hbs := hB.out.size
        have B4 : Hid (Below w.heap.size w w3) := hB.out.trans (T.below hgb hr hbs)
        have Q3 := hid G3
        have RR : Hid (w.heap.size ≤ r3) := by rcases P3 with h | h <;> (unfold Hid; simp at *; omega)
        rw [← MS.out] at Q3
        clear T3 G3 T
        go_wp2
        go_roundw
        case rel => exact ⟨k + 1, r3, by omega, by omega, by go_num, Q3, RR.out, B4⟩
        case measure => simp [intOf]; omega
      by_cases e1 : kd = 1
      · subst e1
        have B3 : Hid (Below wr.heap.size wr (wr.alloc (.cells #[.int .i64 1, .int .i64 id, .int .i64 tk, .int .i64 rm, .int .i64 nn] 28))) := (Below.refl _ _).alloc (Nat.le_refl _) _
        have G2 := hG.out.below B3.out
        simp only [if_true, if_false, show (1 : Int) ≠ 0 from by decide] at MS
        go_wp2_with fail
        refine (leave_any gb r _ id (wr.alloc (.cells #[.int .i64 1, .int .i64 id, .int .i64 tk, .int .i64 rm, .int .i64 nn] 28)) G2 GR.out).mono ?_
        rintro e w3 ⟨r3, rfl, G3, T3, P3⟩
        have T := (Tn.of B3.out).trans T3 (.inl rfl)
        have hbs := hB.out.size
        have B4 : Hid (Below w.heap.size w w3) := hB.out.trans (T.below hgb hr hbs)
        have Q3 := hid G3
        have RR : Hid (w.heap.size ≤ r3) := by rcases P3 with h | h <;> (unfold Hid; simp at *; omega)
        rw [← MS.out] at Q3
        clear T3 G3 T
        go_wp2
        go_roundw
        case rel => exact ⟨k + 1, r3, by omega, by omega, by go_num, Q3, RR.out, B4⟩
        case measure => simp [intOf]; omega
      by_cases e2 : kd = 2
      · subst e2
        have B3 : Hid (Below wr.heap.size wr (wr.alloc (.cells #[.int .i64 2, .int .i64 id, .int .i64 tk, .int .i64 rm, .int .i64 nn] 28))) := (Below.refl _ _).alloc (Nat.le_refl _) _
        have G2 := hG.out.below B3.out
        simp only [if_true, if_false, show (2 : Int) ≠ 0 from by decide, show (2 : Int) ≠ 1 from by decide] at MS
        go_wp2_with fail
        refine (change_any gb r _ id tk (wr.alloc (.cells #[.int .i64 2, .int .i64 id, .int .i64 tk, .int .i64 rm, .int .i64 nn] 28)) G2 GR.out).mono ?_
        rintro e w3 ⟨r3, rfl, G3, T3, P3⟩
        have T := (Tn.of B3.out).trans T3 (.inl rfl)
        have hbs := hB.out.size
        have B4 : Hid (Below w.heap.size w w3) := hB.out.trans (T.below hgb hr hbs)
        have Q3 := hid G3
        have RR : Hid (w.heap.size ≤ r3) := by rcases P3 with h | h <;> (unfold Hid; simp at *; omega)
        rw [← MS.out] at Q3
        clear T3 G3 T
        go_wp2
        go_roundw
        case rel => exact ⟨k + 1, r3, by omega, by omega, by go_num, Q3, RR.out, B4⟩
        case measure => simp [intOf]; omega
      by_cases e3 : kd = 3
      · subst e3
        have B3 : Hid (Below wr.heap.size wr (wr.alloc (.cells #[.int .i64 3, .int .i64 id, .int .i64 tk, .int .i64 rm, .int .i64 nn] 28))) := (Below.refl _ _).alloc (Nat.le_refl _) _
        have G2 := hG.out.below B3.out
        simp only [if_true, if_false, show (3 : Int) ≠ 0 from by decide, show (3 : Int) ≠ 1 from by decide, show (3 : Int) ≠ 2 from by decide] at MS
        go_wp2_with fail
        refine (pick_any gb r _ (wr.alloc (.cells #[.int .i64 3, .int .i64 id, .int .i64 tk, .int .i64 rm, .int .i64 nn] 28)) G2 GR.out).mono ?_
        rintro e w3 ⟨rfl, G3, T3⟩
        have T := (Tn.of B3.out).trans T3 (.inl rfl)
        have hbs := hB.out.size
        have B4 : Hid (Below w.heap.size w w3) := hB.out.trans (T.below hgb hr hbs)
        have Q3 := hid G3
        rw [← MS.out] at Q3
        clear T3 G3 T
        go_wp2
        go_roundw
        case rel => exact ⟨k + 1, r, by omega, by omega, by go_num, Q3, hr, B4⟩
        case measure => simp [intOf]; omega
      rw [if_neg e0, if_neg e1, if_neg e2, if_neg e3] at MS
      have q0 : (kd == 0) = false := by simpa using e0
      have q1 : (kd == 1) = false := by simpa using e1
      have q2 : (kd == 2) = false := by simpa using e2
      have q3 : (kd == 3) = false := by simpa using e3
      have B3 : Hid (Below w.heap.size w (wr.alloc (.cells #[.int .i64 kd, .int .i64 id, .int .i64 tk, .int .i64 rm, .int .i64 nn] 28))) := hB.out.alloc hB.out.size _
      have G2 := hid (hG.out.below ((Below.refl _ _).alloc (Nat.le_refl _) (.cells #[.int .i64 kd, .int .i64 id, .int .i64 tk, .int .i64 rm, .int .i64 nn] 28)))
      rw [← MS.out] at G2
      clear e0 e1 e2 e3
      go_wp2
      go_roundw
      case rel => exact ⟨k + 1, r, by omega, by omega, by go_num, G2, hr, B3⟩
      case measure => simp [intOf]; omega
    · have kl : k = len := by omega
      subst kl
      have ME : Hid (mks ops k = madeM ops) := by
        unfold Hid madeM
        rw [mks_len (k := k) (by rw [HL.out]; exact Nat.le_refl _), mks_len (k := 300) (by rw [HL.out]; exact hk3)]
      go_wp2
      go_ret
      exact ⟨gb, r, rfl, by rw [← ME.out]; exact hG.out, hgb, hr, hB.out⟩

end Go.Proofs.Ytdenhpclopjjgaa
