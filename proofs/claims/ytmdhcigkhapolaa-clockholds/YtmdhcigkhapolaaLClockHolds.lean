/- ClockHolds: for all lists of int64, all lengths and drifts the law's call returns true: however two clocks go, each within the drift, as long as one has gone on by less than the short length, the other one hasn't gone on by the long one. No further conditions. -/
import Derived.Test.YtmdhcigkhapolaaKC
namespace Go.Proofs.Ytmdhcigkhapolaa.clockHolds
open Go.ChangeShapes Go.WideShapes Go.ChangeAt Go.RowKit
set_option linter.unusedVariables false

/-- The sum of the first k numbers. -/
def S (l : List Int) (k : Nat) : Int := (l.take k).sum
theorem S0 (l : List Int) : S l 0 = 0 := rfl
theorem S_succ (l : List Int) (k : Nat) (h : k < l.length) : S l (k + 1) = S l k + l[k]?.getD 0 := by
  unfold S
  rw [List.take_succ_eq_append_getElem h, List.sum_append, List.getElem?_eq_getElem h, List.sum_singleton, Option.getD_some]

/-- What is known of the sums so far. -/
structure Sums (ds es fs : List Int) (d : Int) (k : Nat) : Prop where
  m0 : 0 ≤ S es k
  m1 : S es k ≤ k * 1099511627776
  i0 : 0 ≤ S fs k
  i1 : S fs k ≤ k * 1099511627776
  lo : (1000 - d) * S ds k ≤ 1000 * S es k
  hi : 1000 * S fs k ≤ (1000 + d) * S ds k
theorem sums0 (ds es fs : List Int) (d : Int) : Sums ds es fs d 0 := ⟨by simp [S0], by simp [S0], by simp [S0], by simp [S0], by simp [S0], by simp [S0]⟩
theorem withB_t {t i d : Int} (h : withB t i d = true) : 0 ≤ i ∧ i ≤ 1099511627776 ∧ (1000 - d) * t ≤ 1000 * i ∧ 1000 * i ≤ (1000 + d) * t := by
  simp only [withB, Bool.and_eq_true, decide_eq_true_eq] at h
  obtain ⟨⟨⟨⟨h1, h2⟩, h3⟩, h4⟩, h5⟩ := h
  have a := okl_t h2
  exact ⟨a.1, a.2, h4, h5⟩
theorem Sums.next {ds es fs : List Int} {d : Int} {k : Nat} (h : Sums ds es fs d k) (hd : k < ds.length) (he : k < es.length) (hf : k < fs.length)
    (h1 : withB (ds[k]?.getD 0) (es[k]?.getD 0) d = true) (h2 : withB (ds[k]?.getD 0) (fs[k]?.getD 0) d = true) : Sums ds es fs d (k + 1) := by
  obtain ⟨a1, a2, a3, a4⟩ := withB_t h1
  obtain ⟨b1, b2, b3, b4⟩ := withB_t h2
  obtain ⟨m0, m1, i0, i1, lo, hi⟩ := h
  have c1 := S_succ ds k hd
  have c2 := S_succ es k he
  have c3 := S_succ fs k hf
  generalize ds[k]?.getD 0 = x at *
  generalize es[k]?.getD 0 = y at *
  generalize fs[k]?.getD 0 = z at *
  have p1 : (1000 - d) * S ds (k + 1) = (1000 - d) * S ds k + (1000 - d) * x := by rw [c1, Int.mul_add]
  have p2 : (1000 + d) * S ds (k + 1) = (1000 + d) * S ds k + (1000 + d) * x := by rw [c1, Int.mul_add]
  constructor
  · omega
  · omega
  · omega
  · omega
  · rw [p1, c2]; omega
  · rw [p2, c3]; omega
/-- The theorem: as long as one clock has gone on by less than the short length, the other one hasn't gone on by the long one. -/
theorem Sums.holds {ds es fs : List Int} {d l : Int} {k : Nat} (h : Sums ds es fs d k) (d0 : 0 ≤ d) (d1 : d < 1000) (l1 : 1 ≤ l) (hm : S es k < l * (1000 - d) / (1000 + d)) : S fs k < l := by
  obtain ⟨m0, m1, i0, i1, lo, hi⟩ := h
  generalize S ds k = D at *
  generalize S es k = M at *
  generalize S fs k = I at *
  refine Int.not_le.1 fun hl => ?_
  have e1 := Int.ediv_mul_le (l * (1000 - d)) (show (1000 + d) ≠ 0 by omega)
  have a1 : 1000 * l ≤ (1000 + d) * D := by omega
  have a2 : (1000 - d) * (1000 * l) ≤ (1000 - d) * ((1000 + d) * D) := Int.mul_le_mul_of_nonneg_left a1 (by omega)
  have a3 : (1000 + d) * ((1000 - d) * D) ≤ (1000 + d) * (1000 * M) := Int.mul_le_mul_of_nonneg_left lo (by omega)
  have a4 : (1000 - d) * ((1000 + d) * D) = (1000 + d) * ((1000 - d) * D) := by rw [← Int.mul_assoc, ← Int.mul_assoc, Int.mul_comm (1000 - d) (1000 + d)]
  have a5 : (1000 - d) * (1000 * l) = 1000 * (l * (1000 - d)) := by rw [Int.mul_comm l, ← Int.mul_assoc, Int.mul_comm (1000 - d) 1000, Int.mul_assoc]
  have a6 : (1000 + d) * (1000 * M) = 1000 * (M * (1000 + d)) := by rw [Int.mul_comm M, ← Int.mul_assoc, Int.mul_comm (1000 + d) 1000, Int.mul_assoc]
  have a7 : l * (1000 - d) ≤ M * (1000 + d) := by omega
  have a8 : (M + 1) * (1000 + d) ≤ l * (1000 - d) / (1000 + d) * (1000 + d) := Int.mul_le_mul_of_nonneg_right (by omega) (by omega)
  have a9 : (M + 1) * (1000 + d) = M * (1000 + d) + (1000 + d) := by rw [Int.add_mul, Int.one_mul]
  omega

set_option maxHeartbeats 1000000 in
theorem early (a : Option Addr) (len cap : Nat) (a2 : Option Addr) (len2 cap2 : Nat) (a3 : Option Addr) (len3 cap3 : Nat) (l d X E : Int) (b2 b3 : Bool) (w : World)
    (H : Hid (E = 1 ∨ E = 0 ∧ (2000 < len ∨ b2 = false ∨ b3 = false))) (EX : Hid (lenV l d = X)) (EE : Hid (lenE l d = E)) (hl : len ≤ 9223372036854775807)
    (S2 : Hid (∀ w', Below w.heap.size w w' → Calls Try.prog 26 #[.slice a len cap, .slice a2 len2 cap2, .int .i64 d] w' fun e w'' => e = .returned (.bool b2) ∧ Below w'.heap.size w' w''))
    (S3 : Hid (∀ w', Below w.heap.size w w' → Calls Try.prog 26 #[.slice a len cap, .slice a3 len3 cap3, .int .i64 d] w' fun e w'' => e = .returned (.bool b3) ∧ Below w'.heap.size w' w'')) :
    Calls Try.prog 10 #[.slice a len cap, .slice a2 len2 cap2, .slice a3 len3 cap3, .int .i64 l, .int .i64 d] w fun e w' => e = .returned (.bool true) ∧ Below w.heap.size w w' := by
  rcases H.out with rfl | ⟨rfl, h⟩
  · clear H
    go_enter Try.func10, Try.ntmps10
    go_wp2_with fail
    refine (awake4_any _).mono ?_
    rintro e x0 ⟨rfl, q0⟩
    go_wp2_with fail
    refine (len_v l d X 1 EX.out EE.out _).mono ?_
    rintro e x1 ⟨rfl, h1⟩
    have q1 := q0.trans (h1.mono q0.size)
    go_wp2
    go_ret
    exact ⟨rfl, q1⟩
  · clear H
    by_cases hn : 2000 < len
    · clear h
      go_enter Try.func10, Try.ntmps10
      go_wp2_with fail
      refine (awake4_any _).mono ?_
      rintro e x0 ⟨rfl, q0⟩
      go_wp2_with fail
      refine (len_v l d X 0 EX.out EE.out _).mono ?_
      rintro e x1 ⟨rfl, h1⟩
      have q1 := q0.trans (h1.mono q0.size)
      go_wp2
      go_ret
      exact ⟨rfl, q1⟩
    · cases b2
      · clear h
        go_enter Try.func10, Try.ntmps10
        go_wp2_with fail
        refine (awake4_any _).mono ?_
        rintro e x0 ⟨rfl, q0⟩
        go_wp2_with fail
        refine (len_v l d X 0 EX.out EE.out _).mono ?_
        rintro e x1 ⟨rfl, h1⟩
        have q1 := q0.trans (h1.mono q0.size)
        go_wp2_with fail
        refine (S2.out _ q1).mono ?_
        rintro e x2 ⟨rfl, h2⟩
        have q2 := q1.trans (h2.mono q1.size)
        go_wp2
        go_ret
        exact ⟨rfl, q2⟩
      · obtain rfl : b3 = false := by rcases h with h | h | h <;> first | exact h | omega | cases h
        clear h
        go_enter Try.func10, Try.ntmps10
        go_wp2_with fail
        refine (awake4_any _).mono ?_
        rintro e x0 ⟨rfl, q0⟩
        go_wp2_with fail
        refine (len_v l d X 0 EX.out EE.out _).mono ?_
        rintro e x1 ⟨rfl, h1⟩
        have q1 := q0.trans (h1.mono q0.size)
        go_wp2_with fail
        refine (S2.out _ q1).mono ?_
        rintro e x2 ⟨rfl, h2⟩
        have q2 := q1.trans (h2.mono q1.size)
        go_wp2_with fail
        refine (S3.out _ q2).mono ?_
        rintro e x3 ⟨rfl, h3⟩
        have q3 := q2.trans (h3.mono q2.size)
        go_wp2
        go_ret
        exact ⟨rfl, q3⟩

set_option maxHeartbeats 2000000 in
theorem late (a : Option Addr) (len cap : Nat) (b2 o2 cap2 : Nat) (b3 o3 cap3 : Nat) (l d X : Int) (ds es fs : List Int) (w : World)
    (EX : Hid (lenV l d = X)) (EE : Hid (lenE l d = 0)) (hl : len ≤ 2000) (l1 : Hid (ds.length = len)) (l2 : Hid (es.length = len)) (l3 : Hid (fs.length = len))
    (c2 : Hid (∀ j, j < len → w.cell? ⟨b2, o2 + j, none⟩ = some (.int .i64 (es[j]?.getD 0)))) (c3 : Hid (∀ j, j < len → w.cell? ⟨b3, o3 + j, none⟩ = some (.int .i64 (fs[j]?.getD 0))))
    (W2 : Hid (∀ j, j < len → withB (ds[j]?.getD 0) (es[j]?.getD 0) d = true)) (W3 : Hid (∀ j, j < len → withB (ds[j]?.getD 0) (fs[j]?.getD 0) d = true))
    (S2 : Hid (∀ w', Below w.heap.size w w' → Calls Try.prog 26 #[.slice a len cap, .slice (some ⟨b2, o2, none⟩) len cap2, .int .i64 d] w' fun e w'' => e = .returned (.bool true) ∧ Below w'.heap.size w' w''))
    (S3 : Hid (∀ w', Below w.heap.size w w' → Calls Try.prog 26 #[.slice a len cap, .slice (some ⟨b3, o3, none⟩) len cap3, .int .i64 d] w' fun e w'' => e = .returned (.bool true) ∧ Below w'.heap.size w' w''))
    (F : Hid (∀ k, Sums ds es fs d k → S es k < X → S fs k < l)) :
    Calls Try.prog 10 #[.slice a len cap, .slice (some ⟨b2, o2, none⟩) len cap2, .slice (some ⟨b3, o3, none⟩) len cap3, .int .i64 l, .int .i64 d] w fun e w' => e = .returned (.bool true) ∧ Below w.heap.size w w' := by
  go_enter Try.func10, Try.ntmps10
  go_wp2_with fail
  refine (awake4_any _).mono ?_
  rintro e x0 ⟨rfl, q0⟩
  go_wp2_with fail
  refine (len_v l d X 0 EX.out EE.out _).mono ?_
  rintro e x1 ⟨rfl, h1⟩
  have q1 := q0.trans (h1.mono q0.size)
  go_wp2_with fail
  refine (S2.out _ q1).mono ?_
  rintro e x2 ⟨rfl, h2⟩
  have q2 := q1.trans (h2.mono q1.size)
  go_wp2_with fail
  refine (S3.out _ q2).mono ?_
  rintro e x3 ⟨rfl, h3⟩
  have q3 := q2.trans (h3.mono q2.size)
  go_wp2_with fail
  go_loopw [13, 14, 47] (fun m t i wr => ∃ k : Nat, k ≤ len ∧ i = .int .i64 k ∧ m = .int .i64 (S es k) ∧ t = .int .i64 (S fs k) ∧ Sums ds es fs d k ∧ Below w.heap.size w wr) (fun _ _ i _ => len - (intOf i).toNat)
  case atStart => exact ⟨0, by omega, rfl, rfl, rfl, sums0 _ _ _ _, q3⟩
  case round =>
    obtain ⟨k, hk, rfl, rfl, rfl, hS, hB⟩ := hrel
    by_cases hlt : k < len
    · have c1 : wr.cell? ⟨b2, o2 + k, none⟩ = some (.int .i64 (es[k]?.getD 0)) := (hB.cell (p := ⟨b2, o2 + k, none⟩) (cell_lt (c2.out k hlt))).trans (c2.out k hlt)
      have c4 : wr.cell? ⟨b3, o3 + k, none⟩ = some (.int .i64 (fs[k]?.getD 0)) := (hB.cell (p := ⟨b3, o3 + k, none⟩) (cell_lt (c3.out k hlt))).trans (c3.out k hlt)
      have N := hS.next (by rw [l1.out]; exact hlt) (by rw [l2.out]; exact hlt) (by rw [l3.out]; exact hlt) (W2.out k hlt) (W3.out k hlt)
      have u1 := S_succ es k (by rw [l2.out]; exact hlt)
      have u2 := S_succ fs k (by rw [l3.out]; exact hlt)
      have U1 := hid u1
      have U2 := hid u2
      have n0 := N.m0
      have n1 := N.m1
      have n2 := N.i0
      have n3 := N.i1
      have f := F.out _ N
      rw [u1] at n0 n1 f
      rw [u2] at n2 n3 f
      clear u1 u2
      have g0 := hS.m0
      have g1 := hS.m1
      have g2 := hS.i0
      have g3 := hS.i1
      have NN := hid N
      clear N hS
      generalize es[k]?.getD 0 = y at *
      generalize fs[k]?.getD 0 = z at *
      generalize S es k = M at *
      generalize S fs k = I at *
      by_cases hm : M + y < X
      · have hq := f hm
        have t1 : decide (M + y < X) = true := by simp; omega
        have t2 : decide (l ≤ I + z) = false := by simp; omega
        clear f
        go_wp2
        go_roundw
        case rel => exact ⟨k + 1, by omega, by go_num, by rw [U1.out], by rw [U2.out], NN.out, hB⟩
        case measure => simp [intOf]; omega
      · have t1 : decide (M + y < X) = false := by simp; omega
        clear f
        go_wp2
        go_roundw
        case rel => exact ⟨k + 1, by omega, by go_num, by rw [U1.out], by rw [U2.out], NN.out, hB⟩
        case measure => simp [intOf]; omega
    · go_wp2
      go_ret
      exact ⟨rfl, hB⟩

set_option maxHeartbeats 1000000 in
theorem empty (a : Option Addr) (cap : Nat) (a2 : Option Addr) (cap2 : Nat) (a3 : Option Addr) (cap3 : Nat) (l d X : Int) (w : World)
    (EX : Hid (lenV l d = X)) (EE : Hid (lenE l d = 0)) :
    Calls Try.prog 10 #[.slice a 0 cap, .slice a2 0 cap2, .slice a3 0 cap3, .int .i64 l, .int .i64 d] w fun e w' => e = .returned (.bool true) ∧ Below w.heap.size w w' := by
  go_enter Try.func10, Try.ntmps10
  go_wp2_with fail
  refine (awake4_any _).mono ?_
  rintro e x0 ⟨rfl, q0⟩
  go_wp2_with fail
  refine (len_v l d X 0 EX.out EE.out _).mono ?_
  rintro e x1 ⟨rfl, h1⟩
  have q1 := q0.trans (h1.mono q0.size)
  go_wp2_with fail
  refine (steady_zero a a2 cap cap2 d _).mono ?_
  rintro e x2 ⟨rfl, h2⟩
  have q2 := q1.trans (h2.mono q1.size)
  go_wp2_with fail
  refine (steady_zero a a3 cap cap3 d _).mono ?_
  rintro e x3 ⟨rfl, h3⟩
  have q3 := q2.trans (h3.mono q2.size)
  go_wp2_with fail
  go_loopw [13, 14, 47] (fun m t i wr => i = .int .i64 0 ∧ m = .int .i64 0 ∧ t = .int .i64 0 ∧ Below w.heap.size w wr) (fun _ _ i _ => 0)
  case atStart => exact ⟨rfl, rfl, rfl, q3⟩
  case round =>
    obtain ⟨rfl, rfl, rfl, hB⟩ := hrel
    go_wp2
    go_ret
    exact ⟨rfl, hB⟩

theorem walk (a : Option Addr) (len cap : Nat) (z : List Int) (a2 : Option Addr) (len2 cap2 : Nat) (z2 : List Int) (a3 : Option Addr) (len3 cap3 : Nat) (z3 : List Int) (l d : Int) (w : World)
    (h : IsRow .i64 w a len cap z) (h2 : IsRow .i64 w a2 len2 cap2 z2) (h3 : IsRow .i64 w a3 len3 cap3 z3) (hl : I64 l) (hd : I64 d) :
    Calls Try.prog 10 #[.slice a len cap, .slice a2 len2 cap2, .slice a3 len3 cap3, .int .i64 l, .int .i64 d] w fun e w' => e = .returned (.bool true) ∧ Below w.heap.size w w' := by
  have H1 := holdsI_row h
  have H2 := holdsI_row h2
  have H3 := holdsI_row h3
  clear h h2 h3
  generalize z.take len = ds at *
  generalize z2.take len2 = es at *
  generalize z3.take len3 = fs at *
  have S2 : ∀ w', Below w.heap.size w w' → Calls Try.prog 26 #[.slice a len cap, .slice a2 len2 cap2, .int .i64 d] w' fun e w'' => e = .returned (.bool (steadyB ds es d)) ∧ Below w'.heap.size w' w'' := fun w' hb => steady_any a a2 len len2 cap cap2 ds es d w' (H1.below hb) (H2.below hb)
  have S3 : ∀ w', Below w.heap.size w w' → Calls Try.prog 26 #[.slice a len cap, .slice a3 len3 cap3, .int .i64 d] w' fun e w'' => e = .returned (.bool (steadyB ds fs d)) ∧ Below w'.heap.size w' w'' := fun w' hb => steady_any a a3 len len3 cap cap3 ds fs d w' (H1.below hb) (H3.below hb)
  cases hL : okL l d
  · exact early a len cap a2 len2 cap2 a3 len3 cap3 l d _ 1 _ _ w (.inl rfl) rfl (by unfold lenE; rw [hL]; rfl) H1.2.1 S2 S3
  have EE : lenE l d = 0 := by unfold lenE; rw [hL]; rfl
  have EX : lenV l d = l * (1000 - d) / (1000 + d) := by unfold lenV; rw [hL]; rfl
  by_cases hc : 2000 < len ∨ steadyB ds es d = false ∨ steadyB ds fs d = false
  · exact early a len cap a2 len2 cap2 a3 len3 cap3 l d _ 0 _ _ w (.inr ⟨rfl, hc⟩) rfl EE H1.2.1 S2 S3
  have hn : len ≤ 2000 := by omega
  have e2 : steadyB ds es d = true := by cases e : steadyB ds es d <;> simp_all
  have e3 : steadyB ds fs d = true := by cases e : steadyB ds fs d <;> simp_all
  clear hc
  rw [e2] at S2
  rw [e3] at S3
  obtain ⟨⟨o1, o2⟩, o3⟩ : (1 ≤ l ∧ okl l = true) ∧ okd d = true := by simpa [okL] using hL
  have dd := okd_t o3
  simp only [steadyB, Bool.and_eq_true, decide_eq_true_eq, H1.1, H2.1, H3.1] at e2 e3
  obtain ⟨rfl, e2⟩ := e2
  obtain ⟨rfl, e3⟩ := e3
  by_cases hp : 0 < len
  · obtain ⟨b2, p2, rfl, c2⟩ := H2.2.2.2 hp
    obtain ⟨b3, p3, rfl, c3⟩ := H3.2.2.2 hp
    exact late a len cap b2 p2 cap2 b3 p3 cap3 l d _ ds es fs w EX EE hn H1.1 H2.1 H3.1 c2 c3 (steps_at e2) (steps_at e3) S2 S3 (fun k hk => hk.holds dd.1 dd.2 o1)
  · obtain rfl : len = 0 := by omega
    exact empty a cap a2 cap2 a3 cap3 l d _ w EX EE

theorem own : ownKnob Try.prog.godebug = none := by kernel_rfl
theorem laidOut : laidOutB Try.prog = true := by kernel_rfl

set_option maxRecDepth 100000 in
theorem lifted (os : Os) (started : os.Started) (H : Type) (enc : TypeId × Value → H) :
    ReturnsInHanded {} Try.checked os 10 .any (Rows.clockHoldsSpec.pre6 enc Try.prog Try.f10 Rows.clockHoldsRow.domain false) (Rows.clockHoldsSpec.post enc Try.prog Try.f10 false true false false) := by
  refine returnsInHanded_of_change (C := Try.checked) own started (by kernel_rfl) Try.func10
    (ChangeSpec.witness6 (enc := enc) (C := Try.checked) false ⟨#[], #[.slice none 0 0, .slice none 0 0, .slice none 0 0, .int .i64 0, .int .i64 0], []⟩ 8 (by kernel_rfl) (by kernel_rfl) (by kernel_rfl) (by kernel_rfl)) ?_
  intro W base args ds gs before hval0 hW hcnd _
  have hval : ∀ (j : Nat) t v, Try.f10.params[j]? = some t → args[j]? = some v → Value.okWide Try.prog W .any base t v := hval0
  have hW' := hW
  obtain ⟨p, q, hA0, hV, rfl, hfz, hnd⟩ := hW
  have hA : DataW.TrodAll enc Try.prog W 0 (fun _ => true) true Try.f10.params.toList args.toList ds p := hA0
  rw [Try.params10] at hA hval
  obtain ⟨v0, vs0, d0, ds0, p0, q0, hargs, rfl, rfl, h0, r0⟩ := trodAll_cons hA
  obtain ⟨v1, vs1, d1, ds1, p1, q1, rfl, rfl, rfl, h1, r1⟩ := trodAll_cons r0
  obtain ⟨v2, vs2, d2, ds2, p2, q2, rfl, rfl, rfl, h2, r2⟩ := trodAll_cons r1
  obtain ⟨v3, vs3, d3, ds3, p3, q3, rfl, rfl, rfl, h3, r3⟩ := trodAll_cons r2
  obtain ⟨v4, vs4, d4, ds4, p4, q4, rfl, rfl, rfl, h4, r4⟩ := trodAll_cons r3
  obtain ⟨rfl, rfl, rfl⟩ := trodAll_nil r4
  obtain rfl : args = #[v0, v1, v2, v3, v4] := by cases args; simp_all
  obtain ⟨rfl, rfl⟩ := trodVars_none hV
  have lt0 : ∀ x ∈ p0, x.block < W.heap.size := by obtain ⟨m, hm⟩ := h0; exact DataW.trod_lt m _ _ _ hm
  have lt1 : ∀ x ∈ p1, x.block < W.heap.size := by obtain ⟨m, hm⟩ := h1; exact DataW.trod_lt m _ _ _ hm
  have lt2 : ∀ x ∈ p2, x.block < W.heap.size := by obtain ⟨m, hm⟩ := h2; exact DataW.trod_lt m _ _ _ hm
  have lt3 : ∀ x ∈ p3, x.block < W.heap.size := by obtain ⟨m, hm⟩ := h3; exact DataW.trod_lt m _ _ _ hm
  have lt4 : ∀ x ∈ p4, x.block < W.heap.size := by obtain ⟨m, hm⟩ := h4; exact DataW.trod_lt m _ _ _ hm
  obtain ⟨a0, len0, cap0, rfl⟩ := okWide_slice Try.underlying22 (hval 0 22 v0 rfl rfl)
  obtain ⟨z0, w0⟩ := val_row Try.underlying22 Try.underlying2 (by kernel_rfl) h0
  obtain ⟨a1, len1, cap1, rfl⟩ := okWide_slice Try.underlying22 (hval 1 22 v1 rfl rfl)
  obtain ⟨z1, w1⟩ := val_row Try.underlying22 Try.underlying2 (by kernel_rfl) h1
  obtain ⟨a2, len2, cap2, rfl⟩ := okWide_slice Try.underlying22 (hval 2 22 v2 rfl rfl)
  obtain ⟨z2, w2⟩ := val_row Try.underlying22 Try.underlying2 (by kernel_rfl) h2
  obtain ⟨a3, rfl, w3⟩ := val_i64 Try.underlying2 (hval 3 2 v3 rfl rfl) h3
  obtain ⟨a4, rfl, w4⟩ := val_i64 Try.underlying3 (hval 4 3 v4 rfl rfl) h4
  clear hA0 hval0
  refine (walk a0 len0 cap0 z0 a1 len1 cap1 z1 a2 len2 cap2 z2 a3 a4 W w0 w1 w2 w3 w4).mono fun e W' ⟨he, bel⟩ => ?_
  subst he
  exact ⟨_, rfl, _, _, _, [], _, [], hW', trodAll_mk1 (shut_bool Try.underlying4 _), (trodAll_cons_mk (Below.trod laidOut (by kernel_rfl) (of_decide_eq_true (by kernel_rfl)) h0 bel lt0) (trodAll_cons_mk (Below.trod laidOut (by kernel_rfl) (of_decide_eq_true (by kernel_rfl)) h1 bel lt1) (trodAll_cons_mk (Below.trod laidOut (by kernel_rfl) (of_decide_eq_true (by kernel_rfl)) h2 bel lt2) (trodAll_cons_mk (Below.trod laidOut (by kernel_rfl) (of_decide_eq_true (by kernel_rfl)) h3 bel lt3) (trodAll_cons_mk (Below.trod laidOut (by kernel_rfl) (of_decide_eq_true (by kernel_rfl)) h4 bel lt4) trodAll_mk0))))), rfl, bel.frame _, fun h => by cases h⟩

theorem over : Rows.clockHoldsRow.holds Try.pinned (OpenSpec.ofChange Rows.clockHoldsSpec) :=
  OpenClaim.holds_of_wide 10 Try.f10 rfl rfl rfl rfl rfl rfl rfl ⟨rfl, rfl, rfl, rfl, rfl⟩ rfl rfl rfl rfl rfl (by kernel_rfl) Try.func10 (by kernel_rfl)
    (of_decide_eq_true (by kernel_rfl)) (by unfold Func.isWrapper; first | (rw [if_pos (by decide +kernel)]; kernel_rfl) | (rw [if_neg (by decide +kernel)]; exact ⟨rfl, rfl⟩))
    (fun os started H enc _ => lifted os started H enc)

theorem proved : Rows.ClockHoldsSaid := over
#print axioms proved
end Go.Proofs.Ytmdhcigkhapolaa.clockHolds
