/- StripBack: for all numbers and all bytes whose values are at most 1048576 in all the law's call returns true: what was laid is read, whatever stands behind it. Conditions: the bound of the second form. -/
import Derived.Test.YtmdhcigkhapolabSR
import Derived.Test.YtmdhcigkhapolabOpenS
namespace Go.Proofs.Ytmdhcigkhapolab.stripBack
open Go.ChangeShapes Go.WideShapes Go.ChangeAt Go.RowKit
set_option linter.unusedVariables false

theorem layE (a : Option Addr) (len cap : Nat) (l : List Int) (x : Int) (w : World) (h : HoldsB w a len cap l) (h0 : 0 ≤ x) (h1 : x ≤ 18446744073709551615) (hm : len + 9 ≤ 281474976710656) :
    Calls Try.prog 13 #[.slice a len cap, .int .u64 x] w fun e w' => ∃ g n c, e = .returned (.slice (some ⟨g, 0, none⟩) n c) ∧ Hid (n = len + (1 + shelf x)) ∧ Row w.heap.size w' g n c (l ++ numB x) ∧ Below w.heap.size w w' :=
  (lay_any a len cap l x w h h0 h1 hm).mono fun e w' ⟨g, h1, h2, h3⟩ => ⟨g, _, _, h1, rfl, h2, h3⟩
theorem layintE (a : Option Addr) (len cap : Nat) (l : List Int) (x : Int) (w : World) (h : HoldsB w a len cap l) (hx : I64 x) (hm : len + 9 ≤ 281474976710656) :
    Calls Try.prog 16 #[.slice a len cap, .int .i64 x] w fun e w' => ∃ g n c, e = .returned (.slice (some ⟨g, 0, none⟩) n c) ∧ Hid (n = len + (1 + shelf (zig x))) ∧ Row w.heap.size w' g n c (l ++ numB (zig x)) ∧ Below w.heap.size w w' :=
  (layint_any a len cap l x w h hx hm).mono fun e w' ⟨g, h1, h2, h3⟩ => ⟨g, _, _, h1, rfl, h2, h3⟩
theorem laybytesE (a : Option Addr) (len cap : Nat) (l : List Int) (a2 : Option Addr) (m cap2 : Nat) (p : List Int) (w : World) (h : HoldsB w a len cap l) (h2 : HoldsB w a2 m cap2 p) (hm : len + m + 9 ≤ 281474976710656) :
    Calls Try.prog 18 #[.slice a len cap, .slice a2 m cap2] w fun e w' => ∃ g n c, e = .returned (.slice (some ⟨g, 0, none⟩) n c) ∧ Hid (n = len + (1 + shelf m) + m) ∧ Row w.heap.size w' g n c (l ++ (numB m ++ p)) ∧ Below w.heap.size w w' :=
  (laybytes_any a len cap l a2 m cap2 p w h h2 hm).mono fun e w' ⟨g, c, h1, h2, h3⟩ => ⟨g, _, c, h1, rfl, h2, h3⟩

def full (x z : Int) (m : Nat) (p r : List Int) : List Int := [9] ++ numB x ++ numB z ++ (numB m ++ p) ++ r
theorem rd1 (x z : Int) (m : Nat) (p r : List Int) (x0 : 0 ≤ x) (x1 : x ≤ 18446744073709551615) : rd (full x z m p r) 1 = (x, 1 + (1 + (shelf x : Int)), 0) := by
  have := rd_numB [9] (numB z ++ (numB m ++ p) ++ r) x x0 x1
  simpa [full] using this
theorem rd2 (x z : Int) (m : Nat) (p r : List Int) (x0 : 0 ≤ z) (x1 : z ≤ 18446744073709551615) : rd (full x z m p r) (1 + (1 + (shelf x : Int))) = (z, 1 + (1 + (shelf x : Int)) + (1 + (shelf z : Int)), 0) := by
  have := rd_numB ([9] ++ numB x) ((numB m ++ p) ++ r) z x0 x1
  have e : (([9] ++ numB x).length : Int) = 1 + (1 + (shelf x : Int)) := by simp [numB_len]; omega
  rw [e] at this
  simpa [full] using this
theorem rd3 (x z : Int) (m : Nat) (p r : List Int) (hm : (m : Int) ≤ 18446744073709551615) : rd (full x z m p r) (1 + (1 + (shelf x : Int)) + (1 + (shelf z : Int))) = ((m : Int), 1 + (1 + (shelf x : Int)) + (1 + (shelf z : Int)) + (1 + (shelf m : Int)), 0) := by
  have := rd_numB ([9] ++ numB x ++ numB z) (p ++ r) m (by omega) hm
  have e : (([9] ++ numB x ++ numB z).length : Int) = 1 + (1 + (shelf x : Int)) + (1 + (shelf z : Int)) := by simp [numB_len]; omega
  rw [e] at this
  simpa [full] using this
theorem rt3 (x z : Int) (m : Nat) (p r : List Int) (hp : p.length = m) (hm : m ≤ 1048576) : rtB (full x z m p r) (1 + (1 + (shelf x : Int)) + (1 + (shelf z : Int))) = p ∧ rtP (full x z m p r) (1 + (1 + (shelf x : Int)) + (1 + (shelf z : Int))) = 1 + (1 + (shelf x : Int)) + (1 + (shelf z : Int)) + (1 + (shelf m : Int)) + m ∧ rtE (full x z m p r) (1 + (1 + (shelf x : Int)) + (1 + (shelf z : Int))) = 0 := by
  have e := rd3 x z m p r (by omega)
  have hl : ((full x z m p r).length : Int) = 1 + (1 + (shelf x : Int)) + (1 + (shelf z : Int)) + (1 + (shelf m : Int)) + m + r.length := by
    simp [full, numB_len, hp]; omega
  unfold rtB rtP rtE
  rw [e, hl]
  simp only [ne_eq, not_true_eq_false, ite_false]
  rw [if_neg (by omega), if_neg (by omega), if_neg (by omega), if_neg (by omega), if_neg (by omega), if_neg (by omega)]
  refine ⟨?_, rfl, rfl⟩
  have e1 : (1 + (1 + (shelf x : Int)) + (1 + (shelf z : Int)) + (1 + (shelf m : Int))).toNat = ([9] ++ numB x ++ numB z ++ numB m).length := by simp [numB_len]; omega
  have e2 : full x z m p r = ([9] ++ numB x ++ numB z ++ numB m) ++ (p ++ r) := by simp [full]
  rw [e1, e2, List.drop_left, Int.toNat_natCast, ← hp, List.take_left]

set_option maxRecDepth 100000 in
set_option maxHeartbeats 8000000 in
theorem main (x s A B C : Int) (a : Option Addr) (m cap : Nat) (p : List Int) (a2 : Option Addr) (rl cap2 : Nat) (r : List Int) (w : World) (x0 : 0 ≤ x) (x1 : x ≤ 18446744073709551615) (hs : I64 s) (hm : m ≤ 1048576) (hr : rl ≤ 1048576)
    (HP : Hid (HoldsB w a m cap p)) (HQ : Hid (HoldsB w a2 rl cap2 r)) (sx : shelf x ≤ 8) (ss : shelf (zig s) ≤ 8) (sm : shelf m ≤ 8)
    (RD : Hid (∀ a n c w, HoldsB w a n c (full x (zig s) m p r) → Calls Try.prog 21 #[.slice a n c, .int .i64 1] w fun e w' => e = .returned (.tuple #[.int .u64 x, .int .i64 A, .int .i64 0]) ∧ w = w'))
    (RI : Hid (∀ a n c w, HoldsB w a n c (full x (zig s) m p r) → Calls Try.prog 23 #[.slice a n c, .int .i64 A] w fun e w' => e = .returned (.tuple #[.int .i64 s, .int .i64 B, .int .i64 0]) ∧ w = w'))
    (RB : Hid (∀ a n c w, HoldsB w a n c (full x (zig s) m p r) → n ≤ 140737488355328 → Calls Try.prog 25 #[.slice a n c, .int .i64 B] w fun e w' => ∃ v, e = .returned (.tuple #[v, .int .i64 C, .int .i64 0]) ∧ Own w.heap.size w' v p.length p ∧ Below w.heap.size w w'))
    (tA : (A != 1 + (1 + (shelf x : Int))) = false) (tB : decide (B ≤ A) = false) (HCC : Hid (C = 1 + (1 + (shelf x : Int)) + (1 + (shelf (zig s) : Int)) + (1 + (shelf m : Int)) + m)) :
    Calls Try.prog 6 #[.int .u64 x, .int .i64 s, .slice a m cap, .slice a2 rl cap2] w fun e w' => e = .returned (.bool true) ∧ Below w.heap.size w w' := by
  have O := hid (holds_arr [9] #[.int .u8 9] 1 rfl rfl (BBd (by decide)) (by omega))
  go_enter Try.func6, Try.ntmps6
  go_wp2_with fail
  with_reducible refine (awake3_any _).mono ?_
  rintro e w1 ⟨rfl, q1⟩
  go_wp2_with fail
  with_reducible refine (layE _ 1 1 [9] x _ (O.out _ _ (by simp)) x0 x1 (by omega)).mono ?_
  rintro e w2 ⟨g2, n2, c2, rfl, e2, h2, b2⟩
  have q2 : Below w.heap.size w w2 := (q1.alloc q1.size _).trans (b2.mono (by simp; have := q1.size; omega))
  have k2 : n2 ≤ 10 := by have := e2.out; omega
  clear q1 b2
  go_wp2_with fail
  with_reducible refine (layintE _ n2 c2 _ s _ h2.holds hs (by omega)).mono ?_
  rintro e w3 ⟨g3, n3, c3, rfl, e3, h3, b3⟩
  have q3 := q2.trans (b3.mono q2.size)
  have k3 : n3 ≤ 20 := by have := e3.out; omega
  clear q2 b3 h2
  go_wp2_with fail
  with_reducible refine (laybytesE _ n3 c3 _ a m cap p _ h3.holds (HP.out.below q3) (by omega)).mono ?_
  rintro e w4 ⟨g4, n4, c4, rfl, e4, h4, b4⟩
  have q4 := q3.trans (b4.mono q3.size)
  have k4 : n4 ≤ 1048700 := by have := e4.out; omega
  have h3s := q3.size
  have h4s := b4.size
  clear h3 b4
  go_wp2_with (at_builtin; refine cat_own _ rfl (.tmp 31) (.tmp 32) rfl _ n4 _ _ rfl h4.own h4s a2 rl cap2 r rfl (HQ.out.below q4) (by omega) ?_)
  intro v5 w5 h5 b5
  obtain ⟨a5, c5, rfl⟩ := h5.form
  have q5 := q4.trans (b5.mono h3s)
  have H5 : Hid (HoldsB w5 a5 (n4 + rl) c5 (full x (zig s) m p r)) := by show HoldsB _ _ _ _ _; simpa [full] using h5.holds
  clear h4 h5 b5 q4 q3
  go_wp2_with fail
  with_reducible refine (RD.out _ _ _ _ H5.out).mono ?_
  rintro e w6 ⟨rfl, rfl⟩
  go_wp2_with fail
  with_reducible refine (size_any' x x0 x1 _).mono ?_
  rintro e w6 ⟨rfl, rfl⟩
  go_wp2_with fail
  with_reducible refine (RI.out _ _ _ _ H5.out).mono ?_
  rintro e w6 ⟨rfl, rfl⟩
  go_wp2_with fail
  with_reducible refine (RB.out _ _ _ _ H5.out (by omega)).mono ?_
  rintro e w6 ⟨v6, rfl, h6, b6⟩
  obtain ⟨a6, c6, rfl⟩ := h6.form
  have q6 := q5.trans (b6.mono q5.size)
  have tC : (C == (n4 : Int)) = true := by
    have := HCC.out; have := e2.out; have := e3.out; have := e4.out
    simp
    omega
  have tM : decide (1048576 < m) = false := by simp; omega
  have tM' : decide ((1048576 : Int) < m) = false := by simp; omega
  have H6 := hid h6.holds
  have P6 := hid (HP.out.below q6)
  clear h6 b6 q5
  go_wp2_with fail
  with_reducible refine (bytes_same _ _ _ _ _ _ _ _ H6.out P6.out).mono ?_
  rintro e w7 ⟨rfl, rfl⟩
  go_wp2
  go_ret
  exact ⟨rfl, q6⟩

theorem walk (x s : Int) (a : Option Addr) (m cap : Nat) (z : List Int) (a2 : Option Addr) (rl cap2 : Nat) (z2 : List Int) (w : World) (hx : U64 x) (hs : I64 s) (h : IsRow .u8 w a m cap z) (sc : cap ≤ 1048576) (h2 : IsRow .u8 w a2 rl cap2 z2) (sc2 : cap2 ≤ 1048576) :
    Calls Try.prog 6 #[.int .u64 x, .int .i64 s, .slice a m cap, .slice a2 rl cap2] w fun e w' => e = .returned (.bool true) ∧ Below w.heap.size w w' := by
  have HP := holdsB_row h
  have HQ := holdsB_row h2
  have hm : m ≤ 1048576 := by have := HP.2.2.1; omega
  have hr : rl ≤ 1048576 := by have := HQ.2.2.1; omega
  have zb := zig_bd hs
  have s1 := shelf_le x
  have s2 := shelf_le (zig s)
  have s3 := shelf_le (m : Int)
  have T := rt3 x (zig s) m (z.take m) (z2.take rl) HP.1 hm
  refine main x s (1 + (1 + (shelf x : Int))) (1 + (1 + (shelf x : Int)) + (1 + (shelf (zig s) : Int))) (1 + (1 + (shelf x : Int)) + (1 + (shelf (zig s) : Int)) + (1 + (shelf m : Int)) + m) a m cap _ a2 rl cap2 _ w hx.1 hx.2 hs hm hr HP HQ s1 s2 s3 (fun a n c w h => ?_) (fun a n c w h => ?_) (fun a n c w h hn => ?_) (by simp) (by simp; omega) rfl
  · have K := read_any a n c _ 1 w h ⟨by omega, by omega⟩
    rw [rd1 _ _ _ _ _ hx.1 hx.2] at K
    exact K
  · have K := readint_any a n c _ (1 + (1 + (shelf x : Int))) w h ⟨by omega, by omega⟩
    rw [rd2 _ _ _ _ _ zb.1 zb.2, zag_zig] at K
    exact K
  · have K := readbytes_any a n c _ (1 + (1 + (shelf x : Int)) + (1 + (shelf (zig s) : Int))) w h ⟨by omega, by omega⟩ hn
    rw [T.1, T.2.1, T.2.2] at K
    exact K

theorem own : ownKnob Try.prog.godebug = none := by kernel_rfl
theorem laidOut : laidOutB Try.prog = true := by kernel_rfl

set_option maxRecDepth 100000 in
theorem lifted (os : Os) (started : os.Started) (H : Type) (enc : TypeId × Value → H) (F : Stop.Interp) :
    ReturnsInHanded {} Try.checked os 6 .any ((Rows.OpenSpec.upto Rows.stripBackSpec).pre6 enc Try.prog Try.f6 Rows.stripBackUptoRow.domain false) (((Rows.OpenSpec.upto Rows.stripBackSpec).at F).post enc Try.prog Try.f6 false true false false) := by
  refine returnsInHanded_of_cond (C := Try.checked) (s := Rows.OpenSpec.upto Rows.stripBackSpec) (k := Rows.uptoSmall) rfl own started (by kernel_rfl) Try.func6
    (OpenSpec.witness (enc := enc) (C := Try.checked) (s := Rows.OpenSpec.upto Rows.stripBackSpec) (k := Rows.uptoSmall) rfl false ⟨#[], #[.int .u64 0, .int .i64 0, .slice none 0 0, .slice none 0 0], []⟩ 8 (by kernel_rfl) (by kernel_rfl) (by kernel_rfl)
      (x := ([.lit (.int .u64 0), .lit (.int .i64 0), .nil, .nil], [], [])) (by kernel_rfl) rfl (by kernel_rfl)) ?_
  intro W base args ds gs before hval0 hW hcnd hk _
  show Calls Try.prog 6 args W fun e W' => ∃ v, e = .returned v ∧ Rows.stripBackSpec.post enc Try.prog Try.f6 false true false false W args v W'
  have hval : ∀ (j : Nat) t v, Try.f6.params[j]? = some t → args[j]? = some v → Value.okWide Try.prog W .any base t v := hval0
  have hW' := hW
  obtain ⟨p, q, hA0, hV, rfl, hfz, hnd⟩ := hW
  have hA : DataW.TrodAll enc Try.prog W 0 (fun _ => true) true Try.f6.params.toList args.toList ds p := hA0
  rw [Try.params6] at hA hval
  obtain ⟨v0, vs0, d0, ds0, p0, q0, hargs, rfl, rfl, h0, r0⟩ := trodAll_cons hA
  obtain ⟨v1, vs1, d1, ds1, p1, q1, rfl, rfl, rfl, h1, r1⟩ := trodAll_cons r0
  obtain ⟨v2, vs2, d2, ds2, p2, q2, rfl, rfl, rfl, h2, r2⟩ := trodAll_cons r1
  obtain ⟨v3, vs3, d3, ds3, p3, q3, rfl, rfl, rfl, h3, r3⟩ := trodAll_cons r2
  obtain ⟨rfl, rfl, rfl⟩ := trodAll_nil r3
  obtain rfl : args = #[v0, v1, v2, v3] := by cases args; simp_all
  obtain ⟨rfl, rfl⟩ := trodVars_none hV
  have lt0 : ∀ x ∈ p0, x.block < W.heap.size := by obtain ⟨m, hm⟩ := h0; exact DataW.trod_lt m _ _ _ hm
  have lt1 : ∀ x ∈ p1, x.block < W.heap.size := by obtain ⟨m, hm⟩ := h1; exact DataW.trod_lt m _ _ _ hm
  have lt2 : ∀ x ∈ p2, x.block < W.heap.size := by obtain ⟨m, hm⟩ := h2; exact DataW.trod_lt m _ _ _ hm
  have lt3 : ∀ x ∈ p3, x.block < W.heap.size := by obtain ⟨m, hm⟩ := h3; exact DataW.trod_lt m _ _ _ hm
  obtain ⟨a0, rfl, w0⟩ := val_u64 Try.underlying23 (hval 0 23 v0 rfl rfl) h0
  obtain ⟨a1, rfl, w1⟩ := val_i64 Try.underlying2 (hval 1 2 v1 rfl rfl) h1
  obtain ⟨a2, len2, cap2, rfl⟩ := okWide_slice Try.underlying22 (hval 2 22 v2 rfl rfl)
  obtain ⟨z2, w2, dr2⟩ := val_row2 Try.underlying22 Try.underlying5 (by kernel_rfl) h2
  have s2 : cap2 ≤ 1048576 := upto_cap dr2 hk (by simp)
  obtain ⟨a3, len3, cap3, rfl⟩ := okWide_slice Try.underlying22 (hval 3 22 v3 rfl rfl)
  obtain ⟨z3, w3, dr3⟩ := val_row2 Try.underlying22 Try.underlying5 (by kernel_rfl) h3
  have s3 : cap3 ≤ 1048576 := upto_cap dr3 hk (by simp)
  clear hA0 hval0
  refine (walk a0 a1 a2 len2 cap2 z2 a3 len3 cap3 z3 W w0 w1 w2 s2 w3 s3).mono fun e W' ⟨he, bel⟩ => ?_
  subst he
  exact ⟨_, rfl, _, _, _, [], _, [], hW', trodAll_mk1 (shut_bool Try.underlying4 _), (trodAll_cons_mk (Below.trod laidOut (by kernel_rfl) (of_decide_eq_true (by kernel_rfl)) h0 bel lt0) (trodAll_cons_mk (Below.trod laidOut (by kernel_rfl) (of_decide_eq_true (by kernel_rfl)) h1 bel lt1) (trodAll_cons_mk (Below.trod laidOut (by kernel_rfl) (of_decide_eq_true (by kernel_rfl)) h2 bel lt2) (trodAll_cons_mk (Below.trod laidOut (by kernel_rfl) (of_decide_eq_true (by kernel_rfl)) h3 bel lt3) trodAll_mk0)))), rfl, bel.frame _, fun h => by cases h⟩

theorem over : Rows.stripBackUptoRow.holds Try.pinned (Rows.OpenSpec.upto Rows.stripBackSpec) :=
  OpenClaim.holds_of_cond 6 Try.f6 rfl rfl rfl rfl rfl rfl rfl ⟨rfl, rfl, rfl, rfl, rfl⟩ rfl rfl rfl rfl rfl (by kernel_rfl) Try.func6 (by kernel_rfl)
    (of_decide_eq_true (by kernel_rfl)) (by unfold Func.isWrapper; first | (rw [if_pos (by decide +kernel)]; kernel_rfl) | (rw [if_neg (by decide +kernel)]; exact ⟨rfl, rfl⟩))
    (fun os started H enc _ F => lifted os started H enc F)

theorem proved : Rows.StripBackUptoSaid := over
#print axioms proved
end Go.Proofs.Ytmdhcigkhapolab.stripBack
