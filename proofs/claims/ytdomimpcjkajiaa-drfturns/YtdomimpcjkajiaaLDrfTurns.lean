/- DrfTurns: for every list of queues, every list of uses, every list of numbers and every amount the law answers true, and its arguments read as they did. No further conditions. -/
import Derived.Test.YtdomimpcjkajiaaDL
import Derived.Test.YtdomimpcjkajiaaQV
namespace Go.Proofs.Ytdomimpcjkajiaa.drfTurns
open Go.ChangeShapes Go.WideShapes Go.ChangeAt Go.RowKit Go.Deep Go.Maps Go.Shelf
set_option linter.unusedVariables false
set_option linter.unusedSimpArgs false

theorem holdsN_row {w : World} {a : Option Addr} {len cap : Nat} {zs : List Int} (h : IsRow .i64 w a len cap zs) : HoldsN w a len cap (zs.take len) ∧ ∀ x ∈ zs.take len, I64 x := by
  rcases h with ⟨rfl, rfl, rfl, rfl⟩ | ⟨x, rfl, hl, hm, hz, hc, hw⟩
  · exact ⟨⟨rfl, by omega, by omega, fun _ => ⟨rfl, rfl⟩, fun h => absurd h (by omega)⟩, fun x hx => by simp at hx⟩
  · unfold maxLen at hm
    refine ⟨⟨by simp; omega, by omega, by omega, (fun h => by simp at h), fun hp => ?_⟩, fun y hy => bounds_i64 (hw y (List.mem_of_mem_take hy))⟩
    obtain ⟨b, off, rfl, hc'⟩ := ints_at hc (by omega)
    have hb : w.cell? ⟨b, off + 0, none⟩ = some (.int .i64 (zs.getD 0 0)) := hc' 0 (by omega)
    refine ⟨b, off, rfl, cell_lt hb, fun j y hy i v hv => ?_⟩
    have hj : j < len := by have := (List.getElem?_eq_some_iff.1 hy).1; simp at this; omega
    match i, hv with
    | 0, hv =>
      simp [encN] at hv
      subst hv
      rw [Nat.mul_one, Nat.add_zero, hc' j (by omega)]
      rw [List.getElem?_take, if_pos hj] at hy
      simp [List.getD, hy]
theorem want_le {l : List Qu} {us : List Us} {ws : List Int} {tc tm : Int} (hz : sumsE l us = 0 ∧ okv (tc, tm) = true ∧ riseB ws = true ∧ ws.length ≠ 0 ∧ allThere l ws = true ∧ allLeaf l ws = true) : ws.length ≤ 64 := by
  obtain ⟨hS, _, hr, h0, hth, _⟩ := hz
  have hG := chkE_ok.1 (sumsE_zero hS).1
  have hall : ∀ y ∈ ws, hasQ l y = true := by unfold allThere at hth; rwa [List.all_eq_true] at hth
  have h1 := place_le hG.2.1 hr (ws.length - 1) (by omega) (fun x hx => hall x (List.mem_of_mem_take hx))
  have h2 : pl l (na ws (ws.length - 1)) < l.length := of_decide_eq_true (hall _ (na_mem (by omega)))
  have h3 := hG.1
  omega
/-- All of want come. -/
theorem all_come {l : List Qu} {us : List Us} {tc tm : Int} : ∀ (m : Nat) (ws : List Int), ws.length = m → readE l us ws tc tm = 0 → ∀ x ∈ ws, x ∈ ordTo l us ws tc tm ws.length := by
  intro m
  induction m with
  | zero => intro ws h _ x hx; rw [List.length_eq_zero_iff.1 h] at hx; cases hx
  | succ m ih =>
    intro ws hm hE x hx
    have hb := turn_mem hE
    have hc : chooseR l us ws tc tm = (qa l (desc l us tc tm (waitF l ws) 0)).id := by unfold chooseR; rw [if_pos hE]
    rw [← hc] at hb
    have hlen : (wout ws (chooseR l us ws tc tm)).length = m := wout_len (rise_pair.1 (readE_zero hE).2.2.1) hb hm
    rw [hm, ord_wout hE]
    by_cases e : x = chooseR l us ws tc tm
    · rw [e]; exact List.mem_cons_self ..
    · refine List.mem_cons_of_mem _ ?_
      have hx2 : x ∈ wout ws (chooseR l us ws tc tm) := List.mem_filter.2 ⟨hx, by simpa using e⟩
      have h0 : (wout ws (chooseR l us ws tc tm)).length ≠ 0 := fun h0 => by rw [List.length_eq_zero_iff.1 h0] at hx2; cases hx2
      have := ih _ hlen (read_wout hE h0) x hx2
      rwa [hlen] at this

set_option maxRecDepth 100000 in
set_option maxHeartbeats 4000000 in
theorem walk_no (a : Option Addr) (len cap : Nat) (l : List Qu) (ub : Option Addr) (n uc : Nat) (us : List Us) (wa : Option Addr) (wn wc : Nat) (ws : List Int) (tc tm : Int) (w : World) (h : HoldsQ w a len cap l) (hok : ∀ q ∈ l, q.ok) (hu : HoldsU w ub n uc us) (huk : ∀ u ∈ us, u.ok) (hw : HoldsN w wa wn wc ws) (hwi : ∀ x ∈ ws, I64 x) (hE : readE l us ws tc tm ≠ 0) :
    Calls Try.prog 8 #[.slice a len cap, .slice ub n uc, .slice wa wn wc, .agg #[.int .i64 tc, .int .i64 tm]] w fun e w' => e = .returned (.bool true) ∧ Below w.heap.size w w' := by
  have HH := hid h
  have HO := hid hok
  have HU := hid hu
  have HQ := hid (fun u hu => (huk u hu).1)
  have HW := hid hw
  have HWI := hid hwi
  have WL := hid hw.1
  have wcap := hw.2.1
  have wcm := hw.2.2.1
  clear h hok hu huk hw hwi
  have m0 : (w.alloc (.cells #[.int .i64 tc, .int .i64 tm] 25)).cell? ⟨w.heap.size, 0, none⟩ = some (.int .i64 tc) := by simp [go_sem]
  have m1 : (w.alloc (.cells #[.int .i64 tc, .int .i64 tm] 25)).cell? ⟨w.heap.size, 1, none⟩ = some (.int .i64 tm) := by simp [go_sem]
  have M0 := hid m0
  have M1 := hid m1
  have BW : Hid (Below w.heap.size w (w.alloc (.cells #[.int .i64 tc, .int .i64 tm] 25))) := (Below.refl _ w).alloc (Nat.le_refl _) _
  clear m0 m1
  have CR : Hid (chooseR l us ws tc tm = 0) := by unfold Hid chooseR; rw [if_neg hE]
  have OR := hid (fun W (hW : Below w.heap.size w W) => order_no a len cap l ub n uc us wa wn wc ws tc tm W (HH.out.below hW) HO.out (HU.out.below hW) HQ.out (HW.out.below hW) HWI.out hE)
  have CH := hid (fun W (hW : Below w.heap.size w W) => choose_any a len cap l ub n uc us wa wn wc ws tc tm W (HH.out.below hW) HO.out (HU.out.below hW) HQ.out (HW.out.below hW) HWI.out)
  rw [CR.out] at CH
  have t : (readE l us ws tc tm != 0) = true := by simpa using hE
  have t2 : (readE l us ws tc tm != readE l us ws tc tm) = false := by simp
  have t3 : (readE l us ws tc tm == readE l us ws tc tm) = true := by simp
  clear hE
  generalize readE l us ws tc tm = E at *
  go_enter Try.func8, Try.ntmps8
  go_wp2_with fail
  refine (awake6_any _).mono ?_
  rintro e w1 ⟨rfl, b1⟩
  have B1 := hid (BW.out.trans (b1.mono BW.out.size))
  have m0 := keepc b1 M0.out
  have m1 := keepc b1 M1.out
  clear b1
  go_wp2_with fail
  refine (OR.out _ B1.out).mono ?_
  rintro e w2 ⟨rfl, b2⟩
  have B2 := hid (B1.out.trans (b2.mono B1.out.size))
  replace m0 := keepc b2 m0
  replace m1 := keepc b2 m1
  clear b2
  go_wp2_with fail
  refine (CH.out _ B2.out).mono ?_
  rintro e w3 ⟨rfl, b3⟩
  have B3 := hid (B2.out.trans (b3.mono B2.out.size))
  go_wp2
  go_ret
  exact ⟨rfl, B3.out⟩

set_option maxRecDepth 100000 in
set_option maxHeartbeats 4000000 in
theorem walk_yes (a : Option Addr) (len cap : Nat) (l : List Qu) (ub : Option Addr) (n uc : Nat) (us : List Us) (wa : Option Addr) (wn wc : Nat) (ws : List Int) (tc tm : Int) (w : World) (h : HoldsQ w a len cap l) (hok : ∀ q ∈ l, q.ok) (hu : HoldsU w ub n uc us) (huk : ∀ u ∈ us, u.ok) (hw : HoldsN w wa wn wc ws) (hwi : ∀ x ∈ ws, I64 x) (hE : readE l us ws tc tm = 0) :
    Calls Try.prog 8 #[.slice a len cap, .slice ub n uc, .slice wa wn wc, .agg #[.int .i64 tc, .int .i64 tm]] w fun e w' => e = .returned (.bool true) ∧ Below w.heap.size w w' := by
  have HH := hid h
  have HO := hid hok
  have HU := hid hu
  have HQ := hid (fun u hu => (huk u hu).1)
  have HW := hid hw
  have HWI := hid hwi
  have WL := hid hw.1
  have wcap := hw.2.1
  have wcm := hw.2.2.1
  clear h hok hu huk hw hwi
  have m0 : (w.alloc (.cells #[.int .i64 tc, .int .i64 tm] 25)).cell? ⟨w.heap.size, 0, none⟩ = some (.int .i64 tc) := by simp [go_sem]
  have m1 : (w.alloc (.cells #[.int .i64 tc, .int .i64 tm] 25)).cell? ⟨w.heap.size, 1, none⟩ = some (.int .i64 tm) := by simp [go_sem]
  have M0 := hid m0
  have M1 := hid m1
  have BW : Hid (Below w.heap.size w (w.alloc (.cells #[.int .i64 tc, .int .i64 tm] 25))) := (Below.refl _ w).alloc (Nat.le_refl _) _
  clear m0 m1
  have hz := readE_zero hE
  have hb := turn_mem hE
  have hc : chooseR l us ws tc tm = (qa l (desc l us tc tm (waitF l ws) 0)).id := by unfold chooseR; rw [if_pos hE]
  rw [← hc] at hb
  have w64 : Hid (ws.length ≤ 64) := want_le hz
  have hw64 : wn ≤ 64 := by rw [← WL.out]; exact w64.out
  have hn0 : wn ≠ 0 := by rw [← WL.out]; exact hz.2.2.2.1
  have hwl : (wout ws (chooseR l us ws tc tm)).length = wn - 1 := wout_len (rise_pair.1 hz.2.2.1) hb (by rw [WL.out]; omega)
  have AC := hid (all_come (us := us) (tc := tc) (tm := tm) _ ws rfl hE)
  have OW : Hid (ordTo l us ws tc tm ws.length = chooseR l us ws tc tm :: ordTo l us (wout ws (chooseR l us ws tc tm)) tc tm (wn - 1)) := by
    unfold Hid
    rw [WL.out, show wn = (wn - 1) + 1 by omega, ord_wout hE]
    rfl
  have RW := hid (fun hn => read_wout (b := chooseR l us ws tc tm) hE hn)
  have OR := hid (fun W (hW : Below w.heap.size w W) => order_yes a len cap l ub n uc us wa wn wc ws tc tm W (HH.out.below hW) HO.out (HU.out.below hW) HQ.out (HW.out.below hW) HWI.out hE)
  have CH := hid (fun W (hW : Below w.heap.size w W) => choose_any a len cap l ub n uc us wa wn wc ws tc tm W (HH.out.below hW) HO.out (HU.out.below hW) HQ.out (HW.out.below hW) HWI.out)
  rw [hE] at CH
  have hTe : Hid (∀ x ∈ ws, x = chooseR l us ws tc tm ∨ x ∈ ordTo l us (wout ws (chooseR l us ws tc tm)) tc tm (wn - 1)) := fun x hx => by
    have h := AC.out x hx
    rw [OW.out] at h
    exact List.mem_cons.1 h
  have ORr := hid (fun (ra : Option Addr) (rc : Nat) W (hW : Below w.heap.size w W) (hr : HoldsN W ra (wn - 1) rc (wout ws (chooseR l us ws tc tm))) (hn : wn - 1 ≠ 0) => order_yes a len cap l ub n uc us ra (wn - 1) rc (wout ws (chooseR l us ws tc tm)) tc tm W (HH.out.below hW) HO.out (HU.out.below hW) HQ.out hr (fun x hx => HWI.out x (List.mem_filter.1 hx).1) (RW.out (by rw [hwl]; exact hn)))
  rw [hwl] at ORr
  rw [OW.out] at OR
  have HWL := hid hwl
  have XI : I64 (chooseR l us ws tc tm) := HWI.out _ hb
  clear hz hb hc hE AC OW RW hwl
  generalize hCR : chooseR l us ws tc tm = CR at *
  generalize hTL : ordTo l us (wout ws CR) tc tm (wn - 1) = TL at *
  clear hCR hTL
  go_enter Try.func8, Try.ntmps8
  go_wp2_with fail
  refine (awake6_any _).mono ?_
  rintro e w1 ⟨rfl, b1⟩
  have B1 := hid (BW.out.trans (b1.mono BW.out.size))
  have m0 := keepc b1 M0.out
  have m1 := keepc b1 M1.out
  clear b1
  go_wp2_with fail
  refine (OR.out _ B1.out).mono ?_
  rintro e w2 ⟨v2, rfl, o2, b2⟩
  rw [WL.out] at o2
  obtain ⟨a2, c2, rfl⟩ := o2.form
  have H2 := hid (o2.holds encN_len)
  have B2 := hid (B1.out.trans (b2.mono B1.out.size))
  replace m0 := keepc b2 m0
  replace m1 := keepc b2 m1
  have TLn := hid H2.out.1
  have c2le := H2.out.2.1
  have c2m := H2.out.2.2.1
  clear b2 o2 OR
  go_wp2_with fail
  refine (CH.out _ B2.out).mono ?_
  rintro e w3 ⟨rfl, b3⟩
  have B3 := hid (B2.out.trans (b3.mono B2.out.size))
  have H3 := hid (H2.out.below b3)
  replace m0 := keepc b3 m0
  replace m1 := keepc b3 m1
  clear b3 CH H2
  obtain ⟨pb, po, rfl, R⟩ := H3.out.rowA (by omega)
  have r0 := R 0 (by omega)
  have e0 : na (CR :: TL) 0 = CR := rfl
  rw [e0, Nat.add_zero] at r0
  have t1 : ((wn : Int) == 0) = false := by simp; omega
  have t2 : (CR != CR) = false := by simp
  have za : (0 : Int) < (wn : Int) := by omega
  clear R e0
  go_wp2_with fail
  clear r0
  go_loopw [74, 13] (fun i v wr => ∃ k : Nat, k ≤ wn ∧ i = .int .i64 (k : Int) ∧ Hid (OwnN w3.heap.size wr v (wout (ws.take k) CR).length (wout (ws.take k) CR)) ∧ Hid (Below w3.heap.size w3 wr)) (fun i _ _ => wn - (intOf i).toNat)
  case atStart => exact ⟨0, by omega, rfl, OwnE.nil _ _ _ _ _, Below.refl _ _⟩
  case round =>
    obtain ⟨k, hk, rfl, ho, hB⟩ := hrel
    by_cases hlt : k < wn
    · have hlt' : k < ws.length := by rw [WL.out]; exact hlt
      obtain ⟨qb, qo, e, R⟩ := (HW.out.below (B3.out.trans (hB.out.mono B3.out.size))).rowA (by omega)
      subst e
      have c0 := R k hlt
      have hx := hTe.out _ (na_mem hlt')
      have hxI := HWI.out _ (na_mem hlt')
      have tkk : ws.take (k + 1) = ws.take k ++ [na ws k] := by rw [List.take_add_one, na_get hlt']; rfl
      have HN := hid (hasN_any (some ⟨pb, po, none⟩) wn c2 (CR :: TL) (na ws k) wr (H3.out.below hB.out) (by omega))
      have hh : hasN (CR :: TL) (na ws k) = true := by rw [hasN_iff]; rcases hx with h | h; · rw [h]; exact List.mem_cons_self ..
                                                       · exact List.mem_cons_of_mem _ h
      rw [hh] at HN
      have wl : (wout (ws.take k) CR).length ≤ 1000000 - 1 := by
        have h1 : (wout (ws.take k) CR).length ≤ (ws.take k).length := List.length_filter_le ..
        have h2 : ws.length ≤ 64 := w64.out
        rw [List.length_take] at h1
        omega
      have ka : (0 : Int) ≤ (k : Int) := by omega
      have kb : (k : Int) < (wn : Int) := by omega
      by_cases e : na ws k = CR
      · have ew : Hid (wout (ws.take (k + 1)) CR = wout (ws.take k) CR) := by unfold Hid wout; rw [tkk, List.filter_append]; simp [e]
        have te : (na ws k != CR) = false := by simpa using e
        clear hh hx tkk e R
        generalize na ws k = x at *
        go_wp2_with fail
        refine HN.out.mono ?_
        rintro e w4 ⟨rfl, rfl⟩
        go_wp2
        go_roundw
        case rel => exact ⟨k + 1, by omega, by go_num, by rw [ew.out]; exact ho, hB⟩
        case measure => simp [intOf]; omega
      · have ew : Hid (wout (ws.take (k + 1)) CR = wout (ws.take k) CR ++ [na ws k]) := by unfold Hid wout; rw [tkk, List.filter_append]; simp [e]
        have te : (na ws k != CR) = true := by simpa using e
        clear hh hx tkk e R
        generalize na ws k = x at *
        go_wp2_with fail
        refine HN.out.mono ?_
        rintro e w4 ⟨rfl, rfl⟩
        go_wp2_with (at_builtin; refine push_ownN wr x rfl (.tmp 85) (.tmp 87) rfl w3.heap.size _ u13 _ rfl ho.out hB.out.size rfl (by omega) ?_)
        intro v6 w6 o6 b6 g6
        rw [← ew.out] at o6
        have el : (wout (ws.take k) CR).length + 1 = (wout (ws.take (k + 1)) CR).length := by rw [ew.out]; simp
        rw [el] at o6
        have O6 := hid o6
        have B6 := hid (hB.out.trans b6)
        clear o6 b6 g6
        go_wp2
        go_roundw
        case rel => exact ⟨k + 1, by omega, by go_num, O6, B6⟩
        case measure => simp [intOf]; omega
    · have tk : ws.take k = ws := List.take_of_length_le (by rw [WL.out]; omega)
      rw [tk, HWL.out] at ho
      obtain ⟨a4, c4, e⟩ := ho.out.form
      subst e
      have B4 := hid (B3.out.trans (hB.out.mono B3.out.size))
      by_cases h1 : wn - 1 = 0
      · have t3 : (((wn - 1 : Nat) : Int) == 0) = true := by rw [h1]; rfl
        go_wp2
        go_ret
        exact ⟨rfl, B4.out⟩
      · have t3 : (((wn - 1 : Nat) : Int) == 0) = false := by simp; omega
        have OX := hid (ORr.out a4 c4 wr B4.out (ho.out.holds encN_len) h1)
        replace m0 := keepc hB.out m0
        replace m1 := keepc hB.out m1
        go_wp2_with fail
        refine OX.out.mono ?_
        rintro e w5 ⟨v5, rfl, o5, b5⟩
        obtain ⟨a5, c5, e⟩ := o5.form
        subst e
        have P5 := hid (o5.holds encN_len)
        have H5 := hid ((H3.out.below hB.out).below b5)
        have T5 : Hid (HoldsN w5 (some ⟨pb, po + 1, none⟩) (wn - 1) (c2 - 1) TL) := by
          obtain ⟨g1, g2, g3, g4, g5⟩ := H5.out
          refine ⟨by simp at g1; omega, by omega, by omega, (fun e => by cases e), fun hp => ?_⟩
          obtain ⟨b', o', e', hlt', hc'⟩ := g5 (by omega)
          cases e'
          refine ⟨pb, po + 1, rfl, hlt', fun j y hy i v hv => ?_⟩
          have := hc' (j + 1) y (by simpa using hy) i v hv
          rw [← this]
          congr 2
          omega
        have B5 := hid (B4.out.trans (b5.mono B4.out.size))
        have IA := hid (ints_any a5 (some ⟨pb, po + 1, none⟩) (wn - 1) c5 (c2 - 1) TL w5 P5.out T5.out (by omega))
        have s1 : ((wn : Int) - 1).toNat = wn - 1 := by omega
        clear o5 b5 OX
        go_wp2_with fail
        refine IA.out.mono ?_
        rintro e w6 ⟨rfl, b6⟩
        have B6 := hid (B5.out.trans (b6.mono B5.out.size))
        go_wp2
        go_ret
        exact ⟨rfl, B6.out⟩

theorem walk (a : Option Addr) (len cap : Nat) (l : List Qu) (ub : Option Addr) (n uc : Nat) (us : List Us) (wa : Option Addr) (wn wc : Nat) (zs : List Int) (tc tm : Int) (w : World) (h : HoldsQ w a len cap l) (hok : ∀ q ∈ l, q.ok) (hu : HoldsU w ub n uc us) (huk : ∀ u ∈ us, u.ok) (hz : IsRow .i64 w wa wn wc zs) (h1 : I64 tc) (h2 : I64 tm) :
    Calls Try.prog 8 #[.slice a len cap, .slice ub n uc, .slice wa wn wc, .agg #[.int .i64 tc, .int .i64 tm]] w fun e w' => e = .returned (.bool true) ∧ Below w.heap.size w w' := by
  obtain ⟨g1, g2⟩ := holdsN_row hz
  by_cases hE : readE l us (zs.take wn) tc tm = 0
  · exact walk_yes a len cap l ub n uc us wa wn wc (zs.take wn) tc tm w h hok hu huk g1 g2 hE
  · exact walk_no a len cap l ub n uc us wa wn wc (zs.take wn) tc tm w h hok hu huk g1 g2 hE

theorem own : ownKnob Try.prog.godebug = none := by kernel_rfl
theorem laidOut : laidOutB Try.prog = true := by kernel_rfl

set_option maxRecDepth 100000 in
theorem lifted (os : Os) (started : os.Started) (H : Type) (enc : TypeId × Value → H) :
    ReturnsInHanded {} Try.checked os 8 .any (Rows.drfTurnsSpec.pre6 enc Try.prog Try.f8 Rows.drfTurnsRow.domain false) (Rows.drfTurnsSpec.post enc Try.prog Try.f8 false true false false) := by
  refine returnsInHanded_of_change (C := Try.checked) own started (by kernel_rfl) Try.func8
    (ChangeSpec.witness6 (enc := enc) (C := Try.checked) false ⟨#[], #[.slice none 0 0, .slice none 0 0, .slice none 0 0, .agg #[.int .i64 0, .int .i64 0]], []⟩ 8 (by kernel_rfl) (by kernel_rfl) (by kernel_rfl) (by kernel_rfl)) ?_
  intro W base args ds gs before hval0 hW hcnd _
  have hval : ∀ (j : Nat) t v, Try.f8.params[j]? = some t → args[j]? = some v → Value.okWide Try.prog W .any base t v := hval0
  have hW' := hW
  obtain ⟨p, q, hA0, hV, rfl, hfz, hnd⟩ := hW
  have hA : DataW.TrodAll enc Try.prog W 0 (fun _ => true) true Try.f8.params.toList args.toList ds p := hA0
  rw [Try.params8] at hA hval
  obtain ⟨v0, vs0, d0, ds0, p0, q0, hargs, rfl, rfl, h0, r0⟩ := trodAll_cons hA
  obtain ⟨v1, vs1, d1, ds1, p1, q1, rfl, rfl, rfl, h1, r1⟩ := trodAll_cons r0
  obtain ⟨v2, vs2, d2, ds2, p2, q2, rfl, rfl, rfl, h2, r2⟩ := trodAll_cons r1
  obtain ⟨v3, vs3, d3, ds3, p3, q3, rfl, rfl, rfl, h3, r3⟩ := trodAll_cons r2
  obtain ⟨rfl, rfl, rfl⟩ := trodAll_nil r3
  obtain rfl : args = #[v0, v1, v2, v3] := by cases args; simp_all
  obtain ⟨rfl, rfl⟩ := trodVars_none hV
  have lt0 : ∀ x ∈ p0, x.block < W.heap.size := by obtain ⟨m, hm⟩ := h0; exact DataW.trod_lt m _ _ _ hm
  have lt1 : ∀ x ∈ p1, x.block < W.heap.size := by obtain ⟨m, hm⟩ := h1; exact DataW.trod_lt m _ _ _ hm
  have lt2 : ∀ x ∈ p2, x.block < W.heap.size := by obtain ⟨m, hm⟩ := h2; exact DataW.trod_lt m _ _ _ hm
  have lt3 : ∀ x ∈ p3, x.block < W.heap.size := by obtain ⟨m, hm⟩ := h3; exact DataW.trod_lt m _ _ _ hm
  obtain ⟨a0, len0, cap0, rfl⟩ := okWide_slice Try.underlying22 (hval 0 22 v0 rfl rfl)
  obtain ⟨z0, w0, k0, dr0⟩ := val_rowE (k := 7) (en := Qu.cs) (ok := Qu.ok) Try.underlying22 (by kernel_rfl) Qu.cs_len (by decide) (fun _ _ _ h => trod_queue h) h0
  obtain ⟨a1, len1, cap1, rfl⟩ := okWide_slice Try.underlying23 (hval 1 23 v1 rfl rfl)
  obtain ⟨z1, w1, k1, dr1⟩ := val_rowE (k := 3) (en := Us.cs) (ok := Us.ok) Try.underlying23 (by kernel_rfl) Us.cs_len (by decide) (fun _ _ _ h => trod_use h) h1
  obtain ⟨a2, len2, cap2, rfl⟩ := okWide_slice Try.underlying40 (hval 2 40 v2 rfl rfl)
  obtain ⟨z2, w2⟩ := val_row Try.underlying40 Try.underlying3 (by kernel_rfl) h2
  obtain ⟨a3_0, a3_1, rfl, w3_0, w3_1⟩ := val_vec2 Try.underlying25 Try.underlying2 Try.underlying2 (by kernel_rfl) (by kernel_rfl) (hval 3 25 v3 rfl rfl) h3
  clear hA0 hval0
  refine (walk a0 len0 cap0 z0 a1 len1 cap1 z1 a2 len2 cap2 z2 a3_0 a3_1 W w0 k0 w1 k1 w2 w3_0 w3_1).mono fun e W' ⟨he, bel⟩ => ?_
  subst he
  exact ⟨_, rfl, _, _, _, [], _, [], hW', trodAll_mk1 (shut_bool Try.underlying4 _), (trodAll_cons_mk (Below.trod laidOut (by kernel_rfl) (of_decide_eq_true (by kernel_rfl)) h0 bel lt0) (trodAll_cons_mk (Below.trod laidOut (by kernel_rfl) (of_decide_eq_true (by kernel_rfl)) h1 bel lt1) (trodAll_cons_mk (Below.trod laidOut (by kernel_rfl) (of_decide_eq_true (by kernel_rfl)) h2 bel lt2) (trodAll_cons_mk (Below.trod laidOut (by kernel_rfl) (of_decide_eq_true (by kernel_rfl)) h3 bel lt3) trodAll_mk0)))), rfl, bel.frame _, fun h => by cases h⟩

theorem over : Rows.drfTurnsRow.holds Try.pinned (OpenSpec.ofChange Rows.drfTurnsSpec) :=
  OpenClaim.holds_of_wide 8 Try.f8 rfl rfl rfl rfl rfl rfl rfl ⟨rfl, rfl, rfl, rfl, rfl⟩ rfl rfl rfl rfl rfl (by kernel_rfl) Try.func8 (by kernel_rfl)
    (of_decide_eq_true (by kernel_rfl)) (by unfold Func.isWrapper; first | (rw [if_pos (by decide +kernel)]; kernel_rfl) | (rw [if_neg (by decide +kernel)]; exact ⟨rfl, rfl⟩))
    (fun os started H enc _ => lifted os started H enc)

theorem proved : Rows.DrfTurnsSaid := over
#print axioms proved
end Go.Proofs.Ytdomimpcjkajiaa.drfTurns
