/- DiskPrefix: for all calls and every number the law answers true, and they read as they did. No further conditions. -/
import Derived.Test.YtpkifcoichjnbaaMD
import Derived.Test.YtpkifcoichjnbaaOpen
namespace Go.Proofs.Ytpkifcoichjnbaa.diskPrefix
open Go.ChangeShapes Go.WideShapes Go.ChangeAt Go.RowKit Go.Deep Go.Maps
set_option linter.unusedVariables false
set_option linter.unusedSimpArgs false
set_option maxRecDepth 100000 in
set_option maxHeartbeats 16000000 in
theorem main (sa : Option Addr) (sn sc : Nat) (os : List Opp) (ta : Option Addr) (tn tc : Nat) (ot : List Opp) (kp : Int) (w : World) (hs : HoldsO w sa sn sc os) (ht : HoldsO w ta tn tc ot) (hk : I64 kp) :
    Calls Try.prog 4 #[.slice sa sn sc, .slice ta tn tc, .int .i64 kp] w fun e w' => e = .returned (.bool true) ∧ Below w.heap.size w w' := by
  have SN := hid hs.1.1
  have TN := hid ht.1.1
  have RS := hid (fun hp => hs.1.rangeAt hp)
  have RT := hid (fun hp => ht.1.rangeAt hp)
  have BS := hid hs.2
  have BT := hid ht.2
  clear hs ht
  have AW := hid (awake14_any w)
  go_enter Try.func4, Try.ntmps4
  go_wp2_with fail
  with_reducible refine AW.out.mono ?_
  rintro e W0 ⟨rfl, b1⟩
  have B := hid b1
  clear AW b1
  by_cases c1 : 100 < sn
  · have t1 : 100 < (sn : Int) := by omega
    clear c1
    go_wp2_with fail
    go_ret
    exact ⟨rfl, B.out⟩
  have t1 : ¬ 100 < (sn : Int) := by omega
  by_cases c2 : 100 < tn
  · have t2 : 100 < (tn : Int) := by omega
    clear c1 c2
    go_wp2_with fail
    go_ret
    exact ⟨rfl, B.out⟩
  have t2 : ¬ 100 < (tn : Int) := by omega
  by_cases c3 : kp < 0
  · clear c1 c2
    go_wp2_with fail
    go_ret
    exact ⟨rfl, B.out⟩
  have hk1 : kp ≤ 9223372036854775807 := hk.2
  have hk0 : 0 ≤ kp := by omega
  clear hk
  have C := hid (fun W => new_any 40 W (by omega) (by omega))
  rw [show (((40 : Nat) : Int)) = 40 from rfl] at C
  have C1 := hid (C.out W0)
  go_wp2_with fail
  with_reducible refine C1.out.mono ?_
  rintro e W1 ⟨Da, rfl, ⟨Fa, da, fa⟩, b1⟩
  have C2 := hid (C.out W1)
  have HA := hid da
  have HFA := hid fa
  have b1' := hid b1
  clear C1 C da fa b1
  go_wp2_with fail
  with_reducible refine C2.out.mono ?_
  rintro e W2 ⟨Db, rfl, ⟨Fb, db, fb⟩, b2⟩
  have TW : Hid (Two w W2 No Da (List.replicate 40 []) [] Db (List.replicate 40 []) []) := by
    have h1 := B.out.size
    have h2 := b1'.out.size
    exact ⟨Fa, Fb, HA.out.below b2, db, fun q hq hb => by have := HA.out.lt q hq; have := fb q hb; omega, fun q hq => by have := HFA.out q hq; omega, fun q hq => by have := fb q hq; omega, fun q hq => hq.elim, (B.out.trans (b1'.out.mono B.out.size)).trans (b2.mono (B.out.trans (b1'.out.mono B.out.size)).size)⟩
  clear C2 HA HFA b1' db fb b2 B
  obtain ⟨bs0, hb0, hb1, hb2⟩ : ∃ bs, bs = List.replicate 40 ([] : List Int) ∧ bs.length = 40 ∧ ∀ b ∈ bs, BB b := ⟨_, rfl, by simp, fun b hb => by rw [List.eq_of_mem_replicate hb]; exact BB.nil⟩
  rw [← hb0] at TW
  have HB1 := hid hb1
  have HB2 := hid hb2
  clear hb0 hb1 hb2
  go_wp2_with fail
  go_loopw [51] (fun i wr => ∃ j : Nat, j ≤ sn ∧ i = .int .i64 (j : Int) ∧ ∃ bs la lb, Hid (Two w wr No Da bs la Db bs lb) ∧ Hid (bs.length = 40) ∧ Hid (∀ b ∈ bs, BB b) ∧ la.length ≤ j ∧ lb.length ≤ j) (fun i _ => sn - (intOf i).toNat)
  case atStart => exact ⟨0, by omega, rfl, bs0, [], [], TW, HB1, HB2, by simp, by simp⟩
  case round =>
    clear TW HB1 HB2
    obtain ⟨j, hj, rfl, bs, la, lb, TW, HB1, HB2, hla, hlb⟩ := hrel
    by_cases hlt : j < sn
    · have hlt' : j < os.length := by rw [SN.out]; exact hlt
      obtain ⟨b, off, rfl, hbl, RI⟩ := RS.out (by omega)
      have RG := rangeAt_below (RI j os[j] (List.getElem?_eq_getElem hlt')) TW.out.bel
      have HX := hid (BS.out _ (List.getElem_mem hlt'))
      have ka : (0 : Int) ≤ (j : Int) := by omega
      have kb : (j : Int) < (sn : Int) := by omega
      clear RI
      generalize os[j] = x at *
      obtain ⟨xk, xn, xa, xl, xc, xp⟩ := x
      have HO1 := hid (all_oneCell_toArray (Opp.one ⟨xk, xn, xa, xl, xc, xp⟩))
      go_upto_region 12 with (first | refine wpList_load_mid rfl 36 (.tmp 53) rfl _ _ rfl [.int .i64 xk, .int .i64 xn, .slice xa xl xc] _ RG Try.underlying36 rfl sizeOpp ?_ | refine wpList_store_row rfl 36 (.tmp 12) (.tmp 54) rfl wr.heap.size #[.int .i64 xk, .int .i64 xn, .slice xa xl xc] rfl rfl 36 _ (heap_alloc_new wr _) sizeOpp rfl HO1.out ?_)
      rw [alloc_row]
      have b1 := (Below.refl wr.heap.size wr).alloc (Nat.le_refl _) (.cells #[.int .i64 xk, .int .i64 xn, .slice xa xl xc] 36)
      have X := hid (Blk.alloc wr #[.int .i64 xk, .int .i64 xn, .slice xa xl xc] (36))
      replace TW := hid (TW.out.fresh (.cells #[.int .i64 xk, .int .i64 xn, .slice xa xl xc] 36))
      clear b1 RG
      generalize wr.alloc (.cells #[.int .i64 xk, .int .i64 xn, .slice xa xl xc] 36) = w2 at *
      generalize wr.heap.size = Q at *
      have y1 := X.out.cellAt 1 _ rfl
      have y2 := X.out.cellAt 2 _ rfl
      have C1 := hid (two_write TW.out xn HX.out (by omega))
      go_wp2_with fail
      with_reducible refine C1.out.mono ?_
      rintro e w3 ⟨rfl, tw, kk⟩
      replace X := hid ((kk Q rfl).trans X.out)
      replace TW := hid tw
      clear C1 tw kk y1 y2
      replace X : Hid (Blk w3 Q 36 #[.int .i64 xk, .int .i64 xn, .slice xa xl xc]) := X
      have y1 := X.out.cellAt 1 _ rfl
      have y2 := X.out.cellAt 2 _ rfl
      have C2 := hid (two_write TW.out.symm xn HX.out (by omega))
      go_wp2_with fail
      with_reducible refine C2.out.mono ?_
      rintro e w4 ⟨rfl, tw, kk⟩
      replace TW := hid tw.symm.drop
      have L1 := wL_le bs la xn xp
      have L2 := wL_le bs lb xn xp
      have NB : Hid ((wB bs xn xp).length = 40) := by unfold Hid; rw [wB_len]; exact HB1.out
      have NC := hid (wB_BB (n := xn) HB2.out HX.out.2.2.2.2.1)
      clear C2 tw kk X y1 y2
      go_wp2_with fail
      refine ⟨⟨j + 1, by omega, by go_num, _, _, _, TW, NB, NC, by omega, by omega⟩, ?_⟩
      simp [intOf]
      try omega
    · have kb : ¬ (j : Int) < (sn : Int) := by omega
      have ej : j = sn := by omega
      clear hlt
      have C1 := hid (two_sync TW.out)
      go_wp2_with fail
      with_reducible refine C1.out.mono ?_
      rintro e w3 ⟨rfl, tw⟩
      have C2 := hid (two_sync tw.symm)
      clear C1 tw
      go_wp2_with fail
      with_reducible refine C2.out.mono ?_
      rintro e w4 ⟨rfl, tw⟩
      replace TW := hid tw.symm
      clear C2 tw hla hlb
      go_wp2_with fail
      go_loopw [13, 78] (fun c i wr => ∃ j : Nat, j ≤ tn ∧ i = .int .i64 (j : Int) ∧ ∃ ba la bb lb, c = .int .i64 ((la.length : Nat) : Int) ∧ Hid (Two w wr No Da ba la Db bb lb) ∧ Hid (ba.length = 40) ∧ Hid (bb.length = 40) ∧ Hid (∀ b ∈ bb, BB b) ∧ Hid (und ba (la.drop kp.toNat) = bb) ∧ Hid (∀ x ∈ la, 0 ≤ x.n ∧ x.n < ba.length) ∧ la.length ≤ j ∧ lb.length ≤ j) (fun _ i _ => tn - (intOf i).toNat)
      case atStart => exact ⟨0, by omega, rfl, bs, [], bs, [], rfl, TW, HB1, HB1, HB2, (by unfold Hid; rw [List.drop_nil]; rfl), (fun x hx => by cases hx), by simp, by simp⟩
      case round =>
        clear TW HB1 HB2 kb ej
        obtain ⟨j, hj, rfl, ba, la, bb, lb, rfl, TW, HB1, HB3, HB2, HU, HK, hla, hlb⟩ := hrel
        by_cases hlt : j < tn
        · have hlt' : j < ot.length := by rw [TN.out]; exact hlt
          obtain ⟨b, off, rfl, hbl, RI⟩ := RT.out (by omega)
          have RG := rangeAt_below (RI j ot[j] (List.getElem?_eq_getElem hlt')) TW.out.bel
          have HX := hid (BT.out _ (List.getElem_mem hlt'))
          have ka : (0 : Int) ≤ (j : Int) := by omega
          have kb : (j : Int) < (tn : Int) := by omega
          clear RI
          generalize ot[j] = x at *
          obtain ⟨xk, xn, xa, xl, xc, xp⟩ := x
          have HO1 := hid (all_oneCell_toArray (Opp.one ⟨xk, xn, xa, xl, xc, xp⟩))
          go_upto_region 21 with (first | refine wpList_load_mid rfl 36 (.tmp 80) rfl _ _ rfl [.int .i64 xk, .int .i64 xn, .slice xa xl xc] _ RG Try.underlying36 rfl sizeOpp ?_ | refine wpList_store_row rfl 36 (.tmp 15) (.tmp 81) rfl wr.heap.size #[.int .i64 xk, .int .i64 xn, .slice xa xl xc] rfl rfl 36 _ (heap_alloc_new wr _) sizeOpp rfl HO1.out ?_)
          rw [alloc_row]
          have b1 := (Below.refl wr.heap.size wr).alloc (Nat.le_refl _) (.cells #[.int .i64 xk, .int .i64 xn, .slice xa xl xc] 36)
          have X := hid (Blk.alloc wr #[.int .i64 xk, .int .i64 xn, .slice xa xl xc] (36))
          replace TW := hid (TW.out.fresh (.cells #[.int .i64 xk, .int .i64 xn, .slice xa xl xc] 36))
          clear b1 RG
          generalize wr.alloc (.cells #[.int .i64 xk, .int .i64 xn, .slice xa xl xc] 36) = w2 at *
          generalize wr.heap.size = Q at *
          have y1 := X.out.cellAt 1 _ rfl
          have y2 := X.out.cellAt 2 _ rfl
          have C1 := hid (two_write TW.out xn HX.out (by omega))
          have WE : Hid (wE ba.length xn xp.length = wE bb.length xn xp.length) := by unfold Hid; rw [HB1.out, HB3.out]
          have YES := hid (fun h => wL_yes (bs := ba) (ls := la) (n := xn) (l := xp) h)
          have NOO := hid (fun h => w_no (bs := ba) (ls := la) (n := xn) (l := xp) h)
          have HK2 := hid (wL_ok (n := xn) (l := xp) HK.out)
          have NB : Hid ((wB ba xn xp).length = 40) := by unfold Hid; rw [wB_len]; exact HB1.out
          have NB3 : Hid ((wB bb xn xp).length = 40) := by unfold Hid; rw [wB_len]; exact HB3.out
          have NC := hid (wB_BB (n := xn) HB2.out HX.out.2.2.2.2.1)
          have EL := hid (HB1.out.trans HB3.out.symm)
          have SLT := hid (fun h => step_lt (n := xn) (l := xp) (K := kp.toNat) EL.out h HU.out)
          have SGE := hid (fun h => step_ge (n := xn) (l := xp) (K := kp.toNat) h HU.out)
          have LL := wL_le ba la xn xp
          have LB := wL_le bb lb xn xp
          generalize hE : wE ba.length xn xp.length = E at *
          clear hE
          go_wp2_with fail
          with_reducible refine C1.out.mono ?_
          rintro e w3 ⟨rfl, tw, kk⟩
          replace X : Hid (Blk w3 Q 36 #[.int .i64 xk, .int .i64 xn, .slice xa xl xc]) := (kk Q rfl).trans X.out
          replace TW := hid tw
          clear C1 tw kk y1 y2
          by_cases hE : E = 0
          · subst hE
            have eL := YES.out rfl
            have cnt : (((wL ba la xn xp).length : Nat) : Int) = ((la.length : Nat) : Int) + 1 := by omega
            by_cases hc : (la.length : Int) < kp
            · have y1 := X.out.cellAt 1 _ rfl
              have y2 := X.out.cellAt 2 _ rfl
              have C2 := hid (two_write TW.out.symm xn HX.out (by omega))
              have HU2 := hid (SLT.out (by omega))
              have CN := hid cnt
              clear cnt eL
              go_wp2_with fail
              with_reducible refine C2.out.mono ?_
              rintro e w4 ⟨rfl, tw, kk⟩
              replace TW := hid tw.symm.drop
              clear C2 tw kk X y1 y2
              go_wp2_with fail
              refine ⟨⟨j + 1, by omega, by go_num, _, _, _, _, (by rw [CN.out]), TW, NB, NB3, NC, HU2, HK2, by omega, by omega⟩, ?_⟩
              simp [intOf]
              try omega
            · have HU2 := hid (SGE.out (by omega))
              have CN := hid cnt
              clear cnt eL X
              replace TW := hid TW.out.drop
              go_wp2_with fail
              refine ⟨⟨j + 1, by omega, by go_num, _, _, _, _, (by rw [CN.out]), TW, NB, HB3, HB2, HU2, HK2, by omega, by omega⟩, ?_⟩
              simp [intOf]
              try omega
          · have tE : (E == 0) = false := by simpa using hE
            obtain ⟨e1, e2⟩ := NOO.out hE
            rw [e1, e2] at TW
            replace TW := hid TW.out.drop
            clear hE X e1 e2 LL LB
            go_wp2_with fail
            refine ⟨⟨j + 1, by omega, by go_num, _, _, _, _, rfl, TW, HB1, HB3, HB2, HU, HK, by omega, by omega⟩, ?_⟩
            simp [intOf]
            try omega
        · have kb : ¬ (j : Int) < (tn : Int) := by omega
          clear hlt
          have C1 := hid (two_loose TW.out)
          have C2 := hid (two_crash TW.out kp hk0 hk1 HK.out (by omega))
          rw [HU.out] at C2
          go_wp2_with fail
          with_reducible refine C1.out.mono ?_
          rintro e w3 ⟨rfl, rfl⟩
          clear C1
          go_wp2_with fail
          with_reducible refine C2.out.mono ?_
          rintro e w4 ⟨rfl, tw⟩
          have C3 := hid (two_loose tw)
          rw [show (((([] : List Ws).length : Nat)) : Int) = 0 from rfl] at C3
          replace TW := hid tw
          clear C2 tw
          go_wp2_with fail
          with_reducible refine C3.out.mono ?_
          rintro e w5 ⟨rfl, rfl⟩
          clear C3 HU HK hla HB1
          go_wp2_with fail
          go_loopw [116] (fun i wr => ∃ j : Nat, j ≤ 40 ∧ i = .int .i64 (j : Int) ∧ Hid (Two w wr No Da bb [] Db bb lb)) (fun i _ => 40 - (intOf i).toNat)
          case atStart => exact ⟨0, by omega, rfl, TW⟩
          case round =>
            clear TW
            obtain ⟨j, hj, rfl, TW⟩ := hrel
            have ka : (0 : Int) ≤ (j : Int) := by omega
            by_cases hlt : j < 40
            · have kb : (j : Int) < 40 := by omega
              have hlt' : j < bb.length := by rw [HB3.out]; exact hlt
              have C1 := hid (two_read TW.out hlt')
              have BBj := hid (HB2.out _ (List.getElem_mem hlt'))
              go_wp2_with fail
              with_reducible refine C1.out.mono ?_
              rintro e w3 ⟨q1, rfl, hq1, x1, b1⟩
              replace TW := hid (TW.out.below b1)
              have C2 := hid (two_read TW.out.symm hlt')
              have X1 := hid x1
              clear C1 x1 b1 hq1
              go_wp2_with fail
              with_reducible refine C2.out.mono ?_
              rintro e w4 ⟨q2, rfl, hq2, x2, b2⟩
              replace TW := hid (TW.out.below b2)
              have C3 := hid (bytes_same _ _ _ _ _ _ _ _ (pad_holds BBj.out (X1.out.below b2)) (pad_holds BBj.out x2))
              clear C2 X1 x2 b2 hq2 BBj
              go_wp2_with fail
              with_reducible refine C3.out.mono ?_
              rintro e w5 ⟨rfl, rfl⟩
              clear C3
              go_wp2_with fail
              refine ⟨⟨j + 1, by omega, by go_num, TW⟩, ?_⟩
              simp [intOf]
              try omega
            · have kb : ¬ (j : Int) < 40 := by omega
              clear hlt
              go_wp2_with fail
              go_ret
              exact ⟨rfl, TW.out.bel⟩

theorem walk (sa : Option Addr) (sn sc : Nat) (os : List Opp) (ta : Option Addr) (tn tc : Nat) (ot : List Opp) (kp : Int) (w : World) (hs : HoldsO w sa sn sc os) (hs2 : ∀ q ∈ os, I64 q.n) (ht : HoldsO w ta tn tc ot) (ht2 : ∀ q ∈ ot, I64 q.n) (hk : I64 kp) :
    Calls Try.prog 4 #[.slice sa sn sc, .slice ta tn tc, .int .i64 kp] w fun e w' => e = .returned (.bool true) ∧ Below w.heap.size w w' :=
  main sa sn sc os ta tn tc ot kp w hs ht hk

theorem own : ownKnob Try.prog.godebug = none := by kernel_rfl
theorem laidOut : laidOutB Try.prog = true := by kernel_rfl

set_option maxRecDepth 100000 in
theorem lifted (os : Os) (started : os.Started) (H : Type) (enc : TypeId × Value → H) :
    ReturnsInHanded {} Try.checked os 4 .any (Rows.diskPrefixSpec.pre6 enc Try.prog Try.f4 Rows.diskPrefixRow.domain false) (Rows.diskPrefixSpec.post enc Try.prog Try.f4 false true false false) := by
  refine returnsInHanded_of_change (C := Try.checked) own started (by kernel_rfl) Try.func4
    (ChangeSpec.witness6 (enc := enc) (C := Try.checked) false ⟨#[], #[.slice none 0 0, .slice none 0 0, .int .i64 0], []⟩ 8 (by kernel_rfl) (by kernel_rfl) (by kernel_rfl) (by kernel_rfl)) ?_
  intro W base args ds gs before hval0 hW hcnd _
  have hval : ∀ (j : Nat) t v, Try.f4.params[j]? = some t → args[j]? = some v → Value.okWide Try.prog W .any base t v := hval0
  have hW' := hW
  obtain ⟨p, q, hA0, hV, rfl, hfz, hnd⟩ := hW
  have hA : DataW.TrodAll enc Try.prog W 0 (fun _ => true) true Try.f4.params.toList args.toList ds p := hA0
  rw [Try.params4] at hA hval
  obtain ⟨v0, vs0, d0, ds0, p0, q0, hargs, rfl, rfl, h0, r0⟩ := trodAll_cons hA
  obtain ⟨v1, vs1, d1, ds1, p1, q1, rfl, rfl, rfl, h1, r1⟩ := trodAll_cons r0
  obtain ⟨v2, vs2, d2, ds2, p2, q2, rfl, rfl, rfl, h2, r2⟩ := trodAll_cons r1
  obtain ⟨rfl, rfl, rfl⟩ := trodAll_nil r2
  obtain rfl : args = #[v0, v1, v2] := by cases args; simp_all
  obtain ⟨rfl, rfl⟩ := trodVars_none hV
  have lt0 : ∀ x ∈ p0, x.block < W.heap.size := by obtain ⟨m, hm⟩ := h0; exact DataW.trod_lt m _ _ _ hm
  have lt1 : ∀ x ∈ p1, x.block < W.heap.size := by obtain ⟨m, hm⟩ := h1; exact DataW.trod_lt m _ _ _ hm
  have lt2 : ∀ x ∈ p2, x.block < W.heap.size := by obtain ⟨m, hm⟩ := h2; exact DataW.trod_lt m _ _ _ hm
  obtain ⟨a0, len0, cap0, rfl⟩ := okWide_slice Try.underlying22 (hval 0 22 v0 rfl rfl)
  obtain ⟨z0, w0, k0⟩ := val_rowO Try.underlying22 h0
  obtain ⟨a1, len1, cap1, rfl⟩ := okWide_slice Try.underlying22 (hval 1 22 v1 rfl rfl)
  obtain ⟨z1, w1, k1⟩ := val_rowO Try.underlying22 h1
  obtain ⟨a2, rfl, w2⟩ := val_i64 Try.underlying3 (hval 2 3 v2 rfl rfl) h2
  clear hA0 hval0
  refine (walk a0 len0 cap0 z0 a1 len1 cap1 z1 a2 W w0 k0 w1 k1 w2).mono fun e W' ⟨he, bel⟩ => ?_
  subst he
  exact ⟨_, rfl, _, _, _, [], _, [], hW', trodAll_mk1 (shut_bool Try.underlying4 _), (trodAll_cons_mk (Below.trod laidOut (by kernel_rfl) (of_decide_eq_true (by kernel_rfl)) h0 bel lt0) (trodAll_cons_mk (Below.trod laidOut (by kernel_rfl) (of_decide_eq_true (by kernel_rfl)) h1 bel lt1) (trodAll_cons_mk (Below.trod laidOut (by kernel_rfl) (of_decide_eq_true (by kernel_rfl)) h2 bel lt2) trodAll_mk0))), rfl, bel.frame _, fun h => by cases h⟩

theorem over : Rows.diskPrefixRow.holds Try.pinned (OpenSpec.ofChange Rows.diskPrefixSpec) :=
  OpenClaim.holds_of_wide 4 Try.f4 rfl rfl rfl rfl rfl rfl rfl ⟨rfl, rfl, rfl, rfl, rfl⟩ rfl rfl rfl rfl rfl (by kernel_rfl) Try.func4 (by kernel_rfl)
    (of_decide_eq_true (by kernel_rfl)) (by unfold Func.isWrapper; first | (rw [if_pos (by decide +kernel)]; kernel_rfl) | (rw [if_neg (by decide +kernel)]; exact ⟨rfl, rfl⟩))
    (fun os started H enc _ => lifted os started H enc)

theorem proved : Rows.DiskPrefixSaid := over
#print axioms proved
end Go.Proofs.Ytpkifcoichjnbaa.diskPrefix
