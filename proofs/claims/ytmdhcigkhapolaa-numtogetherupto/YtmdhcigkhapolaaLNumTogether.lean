/- NumTogether: for all lists of int64 whose values are at most 1048576 in all the law's call returns true: a list's sum is the same backwards, and of two lists, one behind the other, it is the sum of both sums. Conditions: the bound of the second form. -/
import Derived.Test.YtmdhcigkhapolaaNA
import Derived.Test.YtmdhcigkhapolaaOpenS
namespace Go.Proofs.Ytmdhcigkhapolaa.numTogether
open Go.ChangeShapes Go.WideShapes Go.ChangeAt Go.RowKit
set_option linter.unusedVariables false

theorem sum_rev (l : List Int) : l.reverse.sum = l.sum := by
  induction l with
  | nil => rfl
  | cons x l ih => rw [List.reverse_cons, List.sum_append, ih, List.sum_singleton, List.sum_cons]; omega

set_option maxRecDepth 100000 in
set_option maxHeartbeats 8000000 in
theorem main (a : Option Addr) (n cap : Nat) (l : List Int) (a2 : Option Addr) (m cap2 : Nat) (p : List Int) (w : World) (H : Hid (HoldsJ w a n cap l)) (H2 : Hid (HoldsJ w a2 m cap2 p)) (hn : n ≤ 1048576) (hm : m ≤ 1048576) (x e z g : Int)
    (S1 : Hid (∀ a c w, Holds w a n l → Calls Try.prog 13 #[.slice a n c] w fun r w' => r = .returned (.tuple #[.int .i64 x, .int .i64 e]) ∧ Below w.heap.size w w'))
    (S2 : Hid (∀ a c w, Holds w a n l.reverse → Calls Try.prog 13 #[.slice a n c] w fun r w' => r = .returned (.tuple #[.int .i64 x, .int .i64 e]) ∧ Below w.heap.size w w'))
    (S3 : Hid (∀ a c w, Holds w a m p → Calls Try.prog 13 #[.slice a m c] w fun r w' => r = .returned (.tuple #[.int .i64 z, .int .i64 g]) ∧ Below w.heap.size w w'))
    (X Y : Int)
    (S4 : Hid (∀ a c w, Holds w a (n + m) (l ++ p) → Calls Try.prog 13 #[.slice a (n + m) c] w fun r w' => r = .returned (.tuple #[.int .i64 X, .int .i64 Y]) ∧ Below w.heap.size w w'))
    (AD : Hid (e = 0 → g = 0 → ∀ w, Calls Try.prog 15 #[.int .i64 x, .int .i64 z] w fun r w' => r = .returned (.tuple #[.int .i64 X, .int .i64 Y]) ∧ w = w')) :
    Calls Try.prog 4 #[.slice a n cap, .slice a2 m cap2] w fun e w' => e = .returned (.bool true) ∧ Below w.heap.size w w' := by
  go_enter Try.func4, Try.ntmps4
  go_wp2_with fail
  with_reducible refine (awake_any _).mono ?_
  rintro r w1 ⟨rfl, q1⟩
  have H1 := hid (H.out.below q1)
  have HR : Hid (∀ W, Below w.heap.size w W → HoldsJ W a n cap l) := fun W hW => H.out.below hW
  go_wp2_with fail
  go_loopw [5, 6] (fun v i wr => ∃ k : Nat, k ≤ n ∧ i = .int .i64 ((n : Int) - 1 - k) ∧ OwnI w.heap.size wr v k ((l.reverse).take k) ∧ Below w.heap.size w wr) (fun _ i _ => (intOf i + 1).toNat)
  case atStart => exact ⟨0, by omega, by go_num, own_nilI _ _, q1⟩
  case round =>
    clear q1 H1
    obtain ⟨k, hk, rfl, hown, hB⟩ := hrel
    by_cases hlt : k < n
    · have hh := HR.out _ hB
      obtain ⟨b', o', ea, hc⟩ := hh.2.2.2.2.2.2 (by omega)
      obtain ⟨j, hj⟩ : ∃ j : Nat, j = n - 1 - k := ⟨_, rfl⟩
      have e1 : (n : Int) - 1 - k = j := by omega
      have cx := hc j (by omega)
      have xb := hh.2.2.2.2.1 (l[j]?.getD 0) (by rw [List.getElem?_eq_getElem (by rw [hh.1]; omega)]; exact List.getElem_mem _)
      have BT : Hid (l.reverse.take (k + 1) = l.reverse.take k ++ [l[j]?.getD 0]) := by
        have h1 : k < l.reverse.length := by rw [List.length_reverse, hh.1]; exact hlt
        unfold Hid
        rw [List.take_succ_eq_append_getElem h1, List.getElem_reverse, List.getElem?_eq_getElem (by rw [hh.1]; omega)]
        simp [hj, hh.1]
      have hsz := hB.size
      have HJ : Hid (j + k + 1 = n) := by unfold Hid; omega
      have j1 : j < n := by omega
      have EA := hid ea
      clear hc ea hh hj
      generalize l[j]?.getD 0 = x' at *
      rw [e1, EA.out]
      clear e1
      go_wp2_with (at_builtin; refine push_ownI wr x' rfl (.tmp 26) (.tmp 31) rfl w.heap.size k _ _ rfl hown hsz rfl xb (by omega) ?_)
      intro v3 w3 h3 b3
      have hB3 := hB.trans b3
      clear hown hB b3
      go_wp2
      go_roundw
      case rel => exact ⟨k + 1, by omega, by have := HJ.out; go_num, by rw [BT.out]; exact h3, hB3⟩
      case measure => have := HJ.out; simp [intOf]
    · obtain rfl : k = n := by omega
      rw [List.take_of_length_le (by rw [List.length_reverse, H.out.1]; exact Nat.le_refl _)] at hown
      obtain ⟨a3, c3, rfl⟩ := hown.form
      have H3 := hid hown.holds
      clear hown
      go_wp2_with fail
      with_reducible refine (S1.out _ _ _ ((HR.out _ hB).holds (by omega))).mono ?_
      rintro r w4 ⟨rfl, b4⟩
      have q4 := hB.trans (b4.mono hB.size)
      have H4 := hid (H3.out.below b4)
      clear hB b4 H3
      go_wp2_with fail
      with_reducible refine (S2.out _ _ _ (H4.out.holds (by omega))).mono ?_
      rintro r w5 ⟨rfl, b5⟩
      have q5 := q4.trans (b5.mono q4.size)
      clear q4 b5 H4
      go_wp2_with fail
      with_reducible refine (S3.out _ _ _ ((H2.out.below q5).holds (by omega))).mono ?_
      rintro r w6 ⟨rfl, b6⟩
      have q6 := q5.trans (b6.mono q5.size)
      clear q5 b6
      have B0 : Below w6.heap.size w6 (w6.alloc (.cells #[] 2)) := (Below.refl _ _).alloc (Nat.le_refl _) _
      have A1 := hid ((HR.out _ q6).below B0)
      go_wp2_with (at_builtin; refine cat_ownI _ rfl (.tmp 49) (.tmp 50) rfl w6.heap.size 0 _ [] rfl (own_litI w6) (by simp) a k cap l rfl A1.out (by omega) ?_)
      intro v7 w7 h7 b7
      have b7' := B0.trans b7
      have hs7 := b7'.size
      have A2 := hid ((H2.out.below q6).below b7')
      clear b7 A1
      go_wp2_with (at_builtin; refine cat_ownI _ rfl (.tmp 51) (.tmp 52) rfl w6.heap.size k v7 l rfl h7 hs7 a2 m cap2 p rfl A2.out (by omega) ?_)
      intro v8 w8 h8 b8
      obtain ⟨a8, c8, rfl⟩ := h8.form
      have b8' := b7'.trans b8
      have q8 := q6.trans (b8'.mono q6.size)
      have H8 := hid h8.holds
      clear h7 h8 b8 b8' b7' q6 A2
      go_wp2_with fail
      with_reducible refine (S4.out _ _ _ (H8.out.holds (by omega))).mono ?_
      rintro r w9 ⟨rfl, b9⟩
      have q9 := q8.trans (b9.mono q8.size)
      clear q8 b9 H8
      by_cases he : e = 0
      · have te : (e != 0) = false := by simp [he]
        by_cases hg : g = 0
        · have tg : (g != 0) = false := by simp [hg]
          have A := hid (AD.out he hg)
          clear AD he hg
          go_wp2_with fail
          with_reducible refine (A.out _).mono ?_
          rintro r w10 ⟨rfl, rfl⟩
          go_wp2
          go_ret
          exact ⟨rfl, q9⟩
        · have tg : (g != 0) = true := by simp [hg]
          clear AD he hg
          go_wp2
          go_ret
          exact ⟨rfl, q9⟩
      · have te : (e != 0) = true := by simp [he]
        clear AD he
        go_wp2
        go_ret
        exact ⟨rfl, q9⟩

theorem walk (a : Option Addr) (n cap : Nat) (z : List Int) (a2 : Option Addr) (m cap2 : Nat) (z2 : List Int) (w : World) (h : IsRow .i64 w a n cap z) (s : cap ≤ 1048576) (h2 : IsRow .i64 w a2 m cap2 z2) (s2 : cap2 ≤ 1048576) :
    Calls Try.prog 4 #[.slice a n cap, .slice a2 m cap2] w fun e w' => e = .returned (.bool true) ∧ Below w.heap.size w w' := by
  have H := holdsJ_row h
  have H2 := holdsJ_row h2
  have hn : n ≤ 1048576 := by have := H.2.2.1; omega
  have hm : m ≤ 1048576 := by have := H2.2.2.1; omega
  refine main a n cap _ a2 m cap2 _ w H H2 hn hm _ _ _ _ (fun a c w h => sum_any a n c _ w h) (fun a c w h => ?_) (fun a c w h => sum_any a m c _ w h) _ _ (fun a c w h => sum_any a (n + m) c _ w h) (fun he hg w => ?_)
  · have K := sum_any a n c _ w h
    rw [sum_rev] at K
    exact K
  · have nz : ∀ t : Int, ne t = 0 → nv t = t := fun t ht => by
      unfold ne at ht
      unfold nv
      split at ht
      · next hc => rw [if_pos hc]
      · omega
    have i1 := nz _ he
    have i2 := nz _ hg
    have K := add_any (nv (z.take n).sum) (nv (z2.take m).sum) (nv_I64 _) (nv_I64 _) w
    rw [i1, i2] at K ⊢
    rw [List.sum_append]
    exact K

theorem own : ownKnob Try.prog.godebug = none := by kernel_rfl
theorem laidOut : laidOutB Try.prog = true := by kernel_rfl

set_option maxRecDepth 100000 in
theorem lifted (os : Os) (started : os.Started) (H : Type) (enc : TypeId × Value → H) (F : Stop.Interp) :
    ReturnsInHanded {} Try.checked os 4 .any ((Rows.OpenSpec.upto Rows.numTogetherSpec).pre6 enc Try.prog Try.f4 Rows.numTogetherUptoRow.domain false) (((Rows.OpenSpec.upto Rows.numTogetherSpec).at F).post enc Try.prog Try.f4 false true false false) := by
  refine returnsInHanded_of_cond (C := Try.checked) (s := Rows.OpenSpec.upto Rows.numTogetherSpec) (k := Rows.uptoSmall) rfl own started (by kernel_rfl) Try.func4
    (OpenSpec.witness (enc := enc) (C := Try.checked) (s := Rows.OpenSpec.upto Rows.numTogetherSpec) (k := Rows.uptoSmall) rfl false ⟨#[], #[.slice none 0 0, .slice none 0 0], []⟩ 8 (by kernel_rfl) (by kernel_rfl) (by kernel_rfl)
      (x := ([.nil, .nil], [], [])) (by kernel_rfl) rfl (by kernel_rfl)) ?_
  intro W base args ds gs before hval0 hW hcnd hk _
  show Calls Try.prog 4 args W fun e W' => ∃ v, e = .returned v ∧ Rows.numTogetherSpec.post enc Try.prog Try.f4 false true false false W args v W'
  have hval : ∀ (j : Nat) t v, Try.f4.params[j]? = some t → args[j]? = some v → Value.okWide Try.prog W .any base t v := hval0
  have hW' := hW
  obtain ⟨p, q, hA0, hV, rfl, hfz, hnd⟩ := hW
  have hA : DataW.TrodAll enc Try.prog W 0 (fun _ => true) true Try.f4.params.toList args.toList ds p := hA0
  rw [Try.params4] at hA hval
  obtain ⟨v0, vs0, d0, ds0, p0, q0, hargs, rfl, rfl, h0, r0⟩ := trodAll_cons hA
  obtain ⟨v1, vs1, d1, ds1, p1, q1, rfl, rfl, rfl, h1, r1⟩ := trodAll_cons r0
  obtain ⟨rfl, rfl, rfl⟩ := trodAll_nil r1
  obtain rfl : args = #[v0, v1] := by cases args; simp_all
  obtain ⟨rfl, rfl⟩ := trodVars_none hV
  have lt0 : ∀ x ∈ p0, x.block < W.heap.size := by obtain ⟨m, hm⟩ := h0; exact DataW.trod_lt m _ _ _ hm
  have lt1 : ∀ x ∈ p1, x.block < W.heap.size := by obtain ⟨m, hm⟩ := h1; exact DataW.trod_lt m _ _ _ hm
  obtain ⟨a0, len0, cap0, rfl⟩ := okWide_slice Try.underlying22 (hval 0 22 v0 rfl rfl)
  obtain ⟨z0, w0, dr0⟩ := val_row2 Try.underlying22 Try.underlying2 (by kernel_rfl) h0
  have s0 : cap0 ≤ 1048576 := upto_cap dr0 hk (by simp)
  obtain ⟨a1, len1, cap1, rfl⟩ := okWide_slice Try.underlying22 (hval 1 22 v1 rfl rfl)
  obtain ⟨z1, w1, dr1⟩ := val_row2 Try.underlying22 Try.underlying2 (by kernel_rfl) h1
  have s1 : cap1 ≤ 1048576 := upto_cap dr1 hk (by simp)
  clear hA0 hval0
  refine (walk a0 len0 cap0 z0 a1 len1 cap1 z1 W w0 s0 w1 s1).mono fun e W' ⟨he, bel⟩ => ?_
  subst he
  exact ⟨_, rfl, _, _, _, [], _, [], hW', trodAll_mk1 (shut_bool Try.underlying4 _), (trodAll_cons_mk (Below.trod laidOut (by kernel_rfl) (of_decide_eq_true (by kernel_rfl)) h0 bel lt0) (trodAll_cons_mk (Below.trod laidOut (by kernel_rfl) (of_decide_eq_true (by kernel_rfl)) h1 bel lt1) trodAll_mk0)), rfl, bel.frame _, fun h => by cases h⟩

theorem over : Rows.numTogetherUptoRow.holds Try.pinned (Rows.OpenSpec.upto Rows.numTogetherSpec) :=
  OpenClaim.holds_of_cond 4 Try.f4 rfl rfl rfl rfl rfl rfl rfl ⟨rfl, rfl, rfl, rfl, rfl⟩ rfl rfl rfl rfl rfl (by kernel_rfl) Try.func4 (by kernel_rfl)
    (of_decide_eq_true (by kernel_rfl)) (by unfold Func.isWrapper; first | (rw [if_pos (by decide +kernel)]; kernel_rfl) | (rw [if_neg (by decide +kernel)]; exact ⟨rfl, rfl⟩))
    (fun os started H enc _ F => lifted os started H enc F)

theorem proved : Rows.NumTogetherUptoSaid := over
#print axioms proved
end Go.Proofs.Ytmdhcigkhapolaa.numTogether
