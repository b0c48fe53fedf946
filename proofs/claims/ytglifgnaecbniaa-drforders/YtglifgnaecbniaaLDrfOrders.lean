/- DrfOrders: for every list of queues, every list of uses, every list of numbers and every amount the law answers true, and its arguments read as they did; of each list: as many bytes as the model lets a list take, less 4096. No further conditions. -/
import Derived.Test.YtglifgnaecbniaaMD
import Derived.Test.YtglifgnaecbniaaME
import Derived.Test.YtglifgnaecbniaaQV
namespace Go.Proofs.Ytglifgnaecbniaa.drfOrders
open Go.ChangeShapes Go.WideShapes Go.ChangeAt Go.RowKit Go.Deep Go.Maps Go.Shelf
set_option linter.unusedVariables false
set_option linter.unusedSimpArgs false

theorem holdsN_row {w : World} {a : Option Addr} {len cap : Nat} {zs : List Int} (h : IsRow .i64 w a len cap zs) : HoldsN w a len cap (zs.take len) ∧ ∀ x ∈ zs.take len, I64 x := by
  rcases h with ⟨rfl, rfl, rfl, rfl⟩ | ⟨x, rfl, hl, hm, hz, hc, hw⟩
  · exact ⟨⟨rfl, by omega, by omega, fun _ => ⟨rfl, rfl⟩, fun h => absurd h (by omega)⟩, fun x hx => by simp at hx⟩
  · unfold maxLen at hm
    refine ⟨⟨by simp; omega, by omega, by omega, (fun h => by simp at h), fun hp => ?_⟩, fun y hy => bounds_i64 (hw y (List.mem_of_mem_take hy))⟩
    obtain ⟨b, off, rfl, hc'⟩ := ints_at hc (by omega)
    have hb : w.cell? ⟨b, off + 0, none⟩ = some (.int .i64 (zs.getD 0 0)) := hc' 0 (by omega)
    refine ⟨b, off, rfl, cell_lt hb, fun j y hy i v hv => ?_⟩
    have hj : j < len := by have := (List.getElem?_eq_some_iff.1 hy).1; simp at this; omega
    match i, hv with
    | 0, hv =>
      simp [encN] at hv
      subst hv
      rw [Nat.mul_one, Nat.add_zero, hc' j (by omega)]
      rw [List.getElem?_take, if_pos hj] at hy
      simp [List.getD, hy]

theorem order_both (a : Option Addr) (len cap : Nat) (l : List Qu) (ub : Option Addr) (n uc : Nat) (us : List Us) (wa : Option Addr) (wn wc : Nat) (ws : List Int) (tc tm : Int) (w : World) (h : HoldsQ w a len cap l) (hok : ∀ q ∈ l, q.ok) (hu : HoldsU w ub n uc us) (hq : ∀ u ∈ us, I64 u.qu) (hw : HoldsN w wa wn wc ws) (hwi : ∀ x ∈ ws, I64 x) :
    Calls Try.prog 14 #[.slice a len cap, .slice ub n uc, .slice wa wn wc, .agg #[.int .i64 tc, .int .i64 tm]] w fun e w' => ∃ v, e = .returned (.tuple #[v, .int .i64 (readE l us ws tc tm)]) ∧ OwnN w.heap.size w' v (orderR l us ws tc tm).length (orderR l us ws tc tm) ∧ Below w.heap.size w w' := by
  by_cases hE : readE l us ws tc tm = 0
  · refine (order_yes a len cap l ub n uc us wa wn wc ws tc tm w h hok hu hq hw hwi hE).mono ?_
    rintro e w' ⟨v, rfl, o, b⟩
    refine ⟨v, by rw [hE], ?_, b⟩
    unfold orderR
    rw [if_pos hE, ordTo_len]
    exact o
  · refine (order_no a len cap l ub n uc us wa wn wc ws tc tm w h hok hu hq hw hwi hE).mono ?_
    rintro e w' ⟨rfl, b⟩
    refine ⟨_, rfl, ?_, b⟩
    unfold orderR
    rw [if_neg hE]
    exact OwnE.nil _ _ _ _ _
theorem rorder_both (a : Option Addr) (len cap : Nat) (l : List Qu) (ub : Option Addr) (n uc : Nat) (us : List Us) (wa : Option Addr) (wn wc : Nat) (ws : List Int) (tc tm : Int) (w : World) (h : HoldsQ w a len cap l) (hok : ∀ q ∈ l, q.ok) (hu : HoldsU w ub n uc us) (hw : HoldsN w wa wn wc ws) :
    Calls Try.prog 15 #[.slice a len cap, .slice ub n uc, .slice wa wn wc, .agg #[.int .i64 tc, .int .i64 tm]] w fun e w' => ∃ v, e = .returned (.tuple #[v, .int .i64 (readE l us ws tc tm)]) ∧ OwnN w.heap.size w' v (orderR l us ws tc tm).length (orderR l us ws tc tm) ∧ Below w.heap.size w w' := by
  by_cases hE : readE l us ws tc tm = 0
  · refine (rorder_yes a len cap l ub n uc us wa wn wc ws tc tm w h hok hu hw hE).mono ?_
    rintro e w' ⟨v, rfl, o, b⟩
    refine ⟨v, by rw [hE], ?_, b⟩
    unfold orderR
    rw [if_pos hE, ordTo_len]
    exact o
  · refine (rorder_no a len cap l ub n uc us wa wn wc ws tc tm w h hok hu hw hE).mono ?_
    rintro e w' ⟨rfl, b⟩
    refine ⟨_, rfl, ?_, b⟩
    unfold orderR
    rw [if_neg hE]
    exact OwnE.nil _ _ _ _ _
theorem orderR_le (l : List Qu) (us : List Us) (ws : List Int) (tc tm : Int) : (orderR l us ws tc tm).length ≤ 64 := by
  unfold orderR
  split
  · rename_i h; rw [ordTo_len]; exact want_le6 h
  · simp

set_option maxRecDepth 100000 in
set_option maxHeartbeats 4000000 in
theorem walk_any (a : Option Addr) (len cap : Nat) (l : List Qu) (ub : Option Addr) (n uc : Nat) (us : List Us) (wa : Option Addr) (wn wc : Nat) (ws : List Int) (tc tm : Int) (w : World) (h : HoldsQ w a len cap l) (hok : ∀ q ∈ l, q.ok) (hu : HoldsU w ub n uc us) (huk : ∀ u ∈ us, u.ok) (hw : HoldsN w wa wn wc ws) (hwi : ∀ x ∈ ws, I64 x) (hws : wc * 8 ≤ 140737488351232) :
    Calls Try.prog 4 #[.slice a len cap, .slice ub n uc, .slice wa wn wc, .agg #[.int .i64 tc, .int .i64 tm]] w fun e w' => e = .returned (.bool true) ∧ Below w.heap.size w w' := by
  have HH := hid h
  have HO := hid hok
  have HU := hid hu
  have HQ := hid (fun u hu => (huk u hu).1)
  have HW := hid hw
  have HWI := hid hwi
  have WL := hid hw.1
  have wcap := hw.2.1
  have wcm := hw.2.2.1
  clear h hok hu huk hw hwi
  have m0 : (w.alloc (.cells #[.int .i64 tc, .int .i64 tm] 26)).cell? ⟨w.heap.size, 0, none⟩ = some (.int .i64 tc) := by simp [go_sem]
  have m1 : (w.alloc (.cells #[.int .i64 tc, .int .i64 tm] 26)).cell? ⟨w.heap.size, 1, none⟩ = some (.int .i64 tm) := by simp [go_sem]
  have M0 := hid m0
  have M1 := hid m1
  have BW : Hid (Below w.heap.size w (w.alloc (.cells #[.int .i64 tc, .int .i64 tm] 26))) := (Below.refl _ w).alloc (Nat.le_refl _) _
  clear m0 m1
  have OA := hid (fun xa xc W (hW : Below w.heap.size w W) (hx : HoldsN W xa wn xc ws) => order_both a len cap l ub n uc us xa wn xc ws tc tm W (HH.out.below hW) HO.out (HU.out.below hW) HQ.out hx HWI.out)
  have RA := hid (fun W (hW : Below w.heap.size w W) => rorder_both a len cap l ub n uc us wa wn wc ws tc tm W (HH.out.below hW) HO.out (HU.out.below hW) (HW.out.below hW))
  have OL := orderR_le l us ws tc tm
  have t2 : (readE l us ws tc tm == readE l us ws tc tm) = true := by simp
  generalize readE l us ws tc tm = E at *
  generalize orderR l us ws tc tm = O at *
  generalize hON : O.length = on at *
  go_enter Try.func4, Try.ntmps4
  go_wp2_with fail
  refine (awake6_any _).mono ?_
  rintro e w1 ⟨rfl, b1⟩
  have B1 := hid (BW.out.trans (b1.mono BW.out.size))
  have m0 := keepc b1 M0.out
  have m1 := keepc b1 M1.out
  clear b1
  have kE : Below w1.heap.size w1 (w1.alloc (.cells #[] 3)) := (Below.refl _ w1).alloc (Nat.le_refl _) _
  have oL := hid (OwnE.lit 3 1 encN w1)
  have hWL := hid ((HW.out.below B1.out).below kE)
  have KE := hid kE
  have MM0 := hid m0
  have MM1 := hid m1
  clear kE m0 m1
  go_wp2_with (at_builtin; refine cat_ownE 24 3 _ 8 encN_len encN_one Try.underlying24 infoN rfl (by decide) _ rfl (.tmp 16) (.tmp 17) rfl w1.heap.size 0 _ [] rfl oL.out KE.out.size wa wn wc ws rfl hWL.out (by omega) (by omega) ?_)
  intro v2 w2 o2 b2 _
  have B2 := hid (KE.out.trans b2)
  have O2 := hid o2
  clear o2 b2 oL hWL KE
  go_wp2_with (at_builtin; refine push_ownE 24 3 (.int .i64 0) 8 encN_len encN_one Try.underlying24 infoN rfl (by decide) w2 (71 : Int) rfl (.tmp 18) (.tmp 19) rfl w1.heap.size wn _ ws _ rfl rfl O2.out B2.out.size rfl (by omega) (by omega) ?_)
  intro v3 w3 o3 b3 _
  obtain ⟨g3, c3, rfl⟩ : ∃ g c, v3 = .slice (some ⟨g, 0, none⟩) (wn + 1) c := by
    rcases o3.2.2 with ⟨_, h0⟩ | ⟨g, cap', cur, hv, _⟩
    · omega
    · exact ⟨g, cap', hv⟩
  have H3 := o3.holds encN_len
  have hcc := H3.2.1
  have hcm := H3.2.2.1
  obtain ⟨gb, go_, eg, R3⟩ := H3.rowA (by omega)
  cases eg
  have x71 : Hid (w3.cell? ⟨g3, wn, none⟩ = some (.int .i64 71)) := by
    have h := R3 wn (by omega)
    rw [Nat.zero_add] at h
    unfold Hid
    rw [h]
    have hq : (ws ++ [(71 : Int)])[wn]? = some 71 := by rw [List.getElem?_append_right (by rw [WL.out]; omega), WL.out, Nat.sub_self]; rfl
    have : na (ws ++ [71]) wn = 71 := by unfold na; simp [List.getD, hq]
    rw [this]
  have IN3 : Hid (HoldsN w3 (some ⟨g3, 0, none⟩) wn c3 ws) := by
    obtain ⟨q1, q2, q3, q4, q5⟩ := H3
    refine ⟨WL.out, by omega, q3, (fun e => by cases e), fun hp => ?_⟩
    obtain ⟨b, off, e, hlt, hc⟩ := q5 (by omega)
    refine ⟨b, off, e, hlt, fun j x hx => hc j x ?_⟩
    rw [List.getElem?_append_left (List.getElem?_eq_some_iff.1 hx).1]; exact hx
  have B3' := hid (B2.out.trans b3)
  have B3 := hid (B1.out.trans (B3'.out.mono B1.out.size))
  have m0 := keepc B3'.out MM0.out
  have m1 := keepc B3'.out MM1.out
  clear o3 b3 H3 R3 O2 B3'
  have e1 : ((wn + 1 : Nat) : Int) = (wn : Int) + 1 := by omega
  have n1 : (0 : Int) ≤ (wn : Int) := by omega
  have n2 : (wn : Int) ≤ (c3 : Int) := by omega
  have n3 : (wn : Int) < (wn : Int) + 1 := by omega
  have n4 : (wn : Int) + 1 ≤ (c3 : Int) := by omega
  have n5 : IntKind.i64.wrap ((wn : Int) + 1) = (wn : Int) + 1 := by rw [IntKind.wrap_i64]; omega
  have n6 : (0 : Int) ≤ (wn : Int) + 1 := by omega
  go_wp2_with fail
  refine (OA.out _ c3 _ B3.out IN3.out).mono ?_
  rintro e w4 ⟨v4, rfl, o4, b4⟩
  obtain ⟨a4, c4, rfl⟩ := o4.form
  have B4 := hid (B3.out.trans (b4.mono B3.out.size))
  have H4 := hid (o4.holds encN_len)
  have x4 := hid (keepc b4 x71.out)
  have IN4 := hid (IN3.out.below b4)
  replace m0 := keepc b4 m0
  replace m1 := keepc b4 m1
  clear o4 b4 OA IN3 x71
  go_wp2_with fail
  refine (RA.out _ B4.out).mono ?_
  rintro e w5 ⟨v5, rfl, o5, b5⟩
  obtain ⟨a5, c5, rfl⟩ := o5.form
  have B5 := hid (B4.out.trans (b5.mono B4.out.size))
  have H5 := hid (o5.holds encN_len)
  have G5 := hid (H4.out.below b5)
  have x5 := hid (keepc b5 x4.out)
  have IN5 := hid (IN4.out.below b5)
  clear o5 b5 RA IN4 x4 m0 m1
  have I1 := hid (ints_any a4 a5 on c4 c5 O w5 G5.out H5.out (by omega))
  have I2 := hid (fun W (hW : Below w5.heap.size w5 W) => ints_any (some ⟨g3, 0, none⟩) wa wn c3 wc ws W (IN5.out.below hW) (HW.out.below (B5.out.trans (hW.mono B5.out.size))) (by omega))
  clear hON
  go_wp2_with fail
  refine I1.out.mono ?_
  rintro e w6 ⟨rfl, b6⟩
  have x6 := hid (keepc b6 x5.out)
  have B6 := hid (B5.out.trans (b6.mono B5.out.size))
  have J6 := hid b6
  clear b6
  go_wp2_with fail
  refine (I2.out _ J6.out).mono ?_
  rintro e w7 ⟨rfl, b7⟩
  have x7 := keepc b7 x6.out
  have B7 := hid (B6.out.trans (b7.mono B6.out.size))
  clear b7 I1 I2
  go_wp2
  go_ret
  exact ⟨rfl, B7.out⟩

theorem walk (a : Option Addr) (len cap : Nat) (l : List Qu) (ub : Option Addr) (n uc : Nat) (us : List Us) (wa : Option Addr) (wn wc : Nat) (zs : List Int) (tc tm : Int) (w : World) (h : HoldsQ w a len cap l) (hok : ∀ q ∈ l, q.ok) (hs : cap * 56 ≤ 140737488351232) (hu : HoldsU w ub n uc us) (huk : ∀ u ∈ us, u.ok) (hus : uc * 24 ≤ 140737488351232) (hz : IsRow .i64 w wa wn wc zs) (hzs : wc * 8 ≤ 140737488351232) (h1 : I64 tc) (h2 : I64 tm) :
    Calls Try.prog 4 #[.slice a len cap, .slice ub n uc, .slice wa wn wc, .agg #[.int .i64 tc, .int .i64 tm]] w fun e w' => e = .returned (.bool true) ∧ Below w.heap.size w w' := by
  obtain ⟨g1, g2⟩ := holdsN_row hz
  exact walk_any a len cap l ub n uc us wa wn wc (zs.take wn) tc tm w h hok hu huk g1 g2 hzs

theorem own : ownKnob Try.prog.godebug = none := by kernel_rfl
theorem laidOut : laidOutB Try.prog = true := by kernel_rfl

set_option maxRecDepth 100000 in
theorem lifted (os : Os) (started : os.Started) (H : Type) (enc : TypeId × Value → H) :
    ReturnsInHanded {} Try.checked os 4 .any (Rows.drfOrdersSpec.pre6 enc Try.prog Try.f4 Rows.drfOrdersRow.domain false) (Rows.drfOrdersSpec.post enc Try.prog Try.f4 false true false false) := by
  refine returnsInHanded_of_change_sized (C := Try.checked) own started (by kernel_rfl) Try.func4
    (ChangeSpec.witness6 (enc := enc) (C := Try.checked) false ⟨#[], #[.slice none 0 0, .slice none 0 0, .slice none 0 0, .agg #[.int .i64 0, .int .i64 0]], []⟩ 8 (by kernel_rfl) (by kernel_rfl) (by kernel_rfl) (by kernel_rfl)) ?_
  intro W base args ds gs before hval0 hW hcnd hsz0 _
  have hsz : (DataW.weightsEach Try.prog (Try.f4.params.toList ++ Rows.drfOrdersSpec.plain.varTypes Try.prog) (ds ++ gs)).all (· ≤ reachBytes) = true := hsz0
  have hval : ∀ (j : Nat) t v, Try.f4.params[j]? = some t → args[j]? = some v → Value.okWide Try.prog W .any base t v := hval0
  have hW' := hW
  obtain ⟨p, q, hA0, hV, rfl, hfz, hnd⟩ := hW
  have hA : DataW.TrodAll enc Try.prog W 0 (fun _ => true) true Try.f4.params.toList args.toList ds p := hA0
  rw [Try.params4] at hA hval hsz
  obtain ⟨v0, vs0, d0, ds0, p0, q0, hargs, rfl, rfl, h0, r0⟩ := trodAll_cons hA
  obtain ⟨v1, vs1, d1, ds1, p1, q1, rfl, rfl, rfl, h1, r1⟩ := trodAll_cons r0
  obtain ⟨v2, vs2, d2, ds2, p2, q2, rfl, rfl, rfl, h2, r2⟩ := trodAll_cons r1
  obtain ⟨v3, vs3, d3, ds3, p3, q3, rfl, rfl, rfl, h3, r3⟩ := trodAll_cons r2
  obtain ⟨rfl, rfl, rfl⟩ := trodAll_nil r3
  obtain rfl : args = #[v0, v1, v2, v3] := by cases args; simp_all
  obtain ⟨rfl, rfl⟩ := trodVars_none hV
  have lt0 : ∀ x ∈ p0, x.block < W.heap.size := by obtain ⟨m, hm⟩ := h0; exact DataW.trod_lt m _ _ _ hm
  have lt1 : ∀ x ∈ p1, x.block < W.heap.size := by obtain ⟨m, hm⟩ := h1; exact DataW.trod_lt m _ _ _ hm
  have lt2 : ∀ x ∈ p2, x.block < W.heap.size := by obtain ⟨m, hm⟩ := h2; exact DataW.trod_lt m _ _ _ hm
  have lt3 : ∀ x ∈ p3, x.block < W.heap.size := by obtain ⟨m, hm⟩ := h3; exact DataW.trod_lt m _ _ _ hm
  obtain ⟨a0, len0, cap0, rfl⟩ := okWide_slice Try.underlying22 (hval 0 22 v0 rfl rfl)
  obtain ⟨z0, w0, k0, dr0⟩ := val_rowE (k := 7) (en := Qu.cs) (ok := Qu.ok) Try.underlying22 (by kernel_rfl) Qu.cs_len (by decide) (fun _ _ _ h => trod_queue h) h0
  have s0 : cap0 * 56 ≤ 140737488351232 := sized_cap dr0 hsz (j := 0) rfl rfl Try.underlying22 (by kernel_rfl)
  obtain ⟨a1, len1, cap1, rfl⟩ := okWide_slice Try.underlying23 (hval 1 23 v1 rfl rfl)
  obtain ⟨z1, w1, k1, dr1⟩ := val_rowE (k := 3) (en := Us.cs) (ok := Us.ok) Try.underlying23 (by kernel_rfl) Us.cs_len (by decide) (fun _ _ _ h => trod_use h) h1
  have s1 : cap1 * 24 ≤ 140737488351232 := sized_cap dr1 hsz (j := 1) rfl rfl Try.underlying23 (by kernel_rfl)
  obtain ⟨a2, len2, cap2, rfl⟩ := okWide_slice Try.underlying24 (hval 2 24 v2 rfl rfl)
  obtain ⟨z2, w2, dr2⟩ := val_row2 Try.underlying24 Try.underlying3 (by kernel_rfl) h2
  have s2 : cap2 * 8 ≤ 140737488351232 := sized_cap dr2 hsz (j := 2) rfl rfl Try.underlying24 (by kernel_rfl)
  obtain ⟨a3_0, a3_1, rfl, w3_0, w3_1⟩ := val_vec2 Try.underlying26 Try.underlying2 Try.underlying2 (by kernel_rfl) (by kernel_rfl) (hval 3 26 v3 rfl rfl) h3
  clear hA0 hval0
  refine (walk a0 len0 cap0 z0 a1 len1 cap1 z1 a2 len2 cap2 z2 a3_0 a3_1 W w0 k0 s0 w1 k1 s1 w2 s2 w3_0 w3_1).mono fun e W' ⟨he, bel⟩ => ?_
  subst he
  exact ⟨_, rfl, _, _, _, [], _, [], hW', trodAll_mk1 (shut_bool Try.underlying4 _), (trodAll_cons_mk (Below.trod laidOut (by kernel_rfl) (of_decide_eq_true (by kernel_rfl)) h0 bel lt0) (trodAll_cons_mk (Below.trod laidOut (by kernel_rfl) (of_decide_eq_true (by kernel_rfl)) h1 bel lt1) (trodAll_cons_mk (Below.trod laidOut (by kernel_rfl) (of_decide_eq_true (by kernel_rfl)) h2 bel lt2) (trodAll_cons_mk (Below.trod laidOut (by kernel_rfl) (of_decide_eq_true (by kernel_rfl)) h3 bel lt3) trodAll_mk0)))), rfl, bel.frame _, fun h => by cases h⟩

theorem over : Rows.drfOrdersRow.holds Try.pinned (OpenSpec.ofChange Rows.drfOrdersSpec) :=
  OpenClaim.holds_of_wide 4 Try.f4 rfl rfl rfl rfl rfl rfl rfl ⟨rfl, rfl, rfl, rfl, rfl⟩ rfl rfl rfl rfl rfl (by kernel_rfl) Try.func4 (by kernel_rfl)
    (of_decide_eq_true (by kernel_rfl)) (by unfold Func.isWrapper; first | (rw [if_pos (by decide +kernel)]; kernel_rfl) | (rw [if_neg (by decide +kernel)]; exact ⟨rfl, rfl⟩))
    (fun os started H enc _ => lifted os started H enc)

theorem proved : Rows.DrfOrdersSaid := over
#print axioms proved
end Go.Proofs.Ytglifgnaecbniaa.drfOrders
