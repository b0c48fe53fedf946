/- DiskApart: for all calls, both numbers and all bytes the law answers true, and they read as they did. No further conditions. -/
import Derived.Test.YtpkifcoichjnbaaMJ
import Derived.Test.YtpkifcoichjnbaaSD
import Derived.Test.YtpkifcoichjnbaaOpen
namespace Go.Proofs.Ytpkifcoichjnbaa.diskApart
open Go.ChangeShapes Go.WideShapes Go.ChangeAt Go.RowKit Go.Deep Go.Maps
set_option linter.unusedVariables false
set_option linter.unusedSimpArgs false
set_option maxRecDepth 100000 in
set_option maxHeartbeats 16000000 in
theorem main (sa : Option Addr) (sn sc : Nat) (os : List Opp) (n m : Int) (pa : Option Addr) (pn pc : Nat) (p : List Int) (w : World) (hs : HoldsO w sa sn sc os) (hp : HoldsB w pa pn pc p) :
    Calls Try.prog 5 #[.slice sa sn sc, .int .i64 n, .int .i64 m, .slice pa pn pc] w fun e w' => e = .returned (.bool true) ∧ Below w.heap.size w w' := by
  have SN := hid hs.1.1
  have RS := hid (fun hp => hs.1.rangeAt hp)
  have BS := hid hs.2
  have HP := hid hp
  have PN := hid hp.1
  clear hs hp
  have AW := hid (awake14_any w)
  go_enter Try.func5, Try.ntmps5
  go_wp2_with fail
  with_reducible refine AW.out.mono ?_
  rintro e W0 ⟨rfl, b1⟩
  have B := hid b1
  clear AW b1
  by_cases c1 : 100 < sn
  · have t1 : 100 < (sn : Int) := by omega
    clear c1
    go_wp2_with fail
    go_ret
    exact ⟨rfl, B.out⟩
  have t1 : ¬ 100 < (sn : Int) := by omega
  have C := hid (new_any 20 W0 (by omega) (by omega))
  rw [show (((20 : Nat) : Int)) = 20 from rfl] at C
  go_wp2_with fail
  with_reducible refine C.out.mono ?_
  rintro e W1 ⟨D, rfl, ⟨F, da, fa⟩, b1⟩
  have TW : Hid (One w W1 No D (List.replicate 20 []) []) := ⟨F, da, fun q hq => by have := fa q hq; have := B.out.size; omega, fun q hq => hq.elim, B.out.trans (b1.mono B.out.size)⟩
  clear C da fa b1 B
  obtain ⟨bs0, hb0, hb1, hb2⟩ : ∃ bs, bs = List.replicate 20 ([] : List Int) ∧ bs.length = 20 ∧ ∀ b ∈ bs, BB b := ⟨_, rfl, by simp, fun b hb => by rw [List.eq_of_mem_replicate hb]; exact BB.nil⟩
  rw [← hb0] at TW
  have HB1 := hid hb1
  have HB2 := hid hb2
  clear hb0 hb1 hb2
  go_wp2_with fail
  go_loopw [34] (fun i wr => ∃ j : Nat, j ≤ sn ∧ i = .int .i64 (j : Int) ∧ ∃ bs la, Hid (One w wr No D bs la) ∧ Hid (bs.length = 20) ∧ Hid (∀ b ∈ bs, BB b) ∧ la.length ≤ j) (fun i _ => sn - (intOf i).toNat)
  case atStart => exact ⟨0, by omega, rfl, bs0, [], TW, HB1, HB2, by simp⟩
  case round =>
    clear TW HB1 HB2
    obtain ⟨j, hj, rfl, bs, la, TW, HB1, HB2, hla⟩ := hrel
    by_cases hlt : j < sn
    · have hlt' : j < os.length := by rw [SN.out]; exact hlt
      obtain ⟨b, off, rfl, hbl, RI⟩ := RS.out (by omega)
      have RG := rangeAt_below (RI j os[j] (List.getElem?_eq_getElem hlt')) TW.out.bel
      have HX := hid (BS.out _ (List.getElem_mem hlt'))
      have ka : (0 : Int) ≤ (j : Int) := by omega
      have kb : (j : Int) < (sn : Int) := by omega
      clear RI
      generalize os[j] = x at *
      obtain ⟨xk, xn, xa, xl, xc, xp⟩ := x
      have HO1 := hid (all_oneCell_toArray (Opp.one ⟨xk, xn, xa, xl, xc, xp⟩))
      go_upto_region 11 with (first | refine wpList_load_mid rfl 36 (.tmp 36) rfl _ _ rfl [.int .i64 xk, .int .i64 xn, .slice xa xl xc] _ RG Try.underlying36 rfl sizeOpp ?_ | refine wpList_store_row rfl 36 (.tmp 12) (.tmp 37) rfl wr.heap.size #[.int .i64 xk, .int .i64 xn, .slice xa xl xc] rfl rfl 36 _ (heap_alloc_new wr _) sizeOpp rfl HO1.out ?_)
      rw [alloc_row]
      have b1 := (Below.refl wr.heap.size wr).alloc (Nat.le_refl _) (.cells #[.int .i64 xk, .int .i64 xn, .slice xa xl xc] 36)
      have X := hid (Blk.alloc wr #[.int .i64 xk, .int .i64 xn, .slice xa xl xc] (36))
      replace TW := hid (TW.out.below b1)
      clear b1 RG
      generalize wr.alloc (.cells #[.int .i64 xk, .int .i64 xn, .slice xa xl xc] 36) = w2 at *
      generalize wr.heap.size = Q at *
      have y1 := X.out.cellAt 1 _ rfl
      have y2 := X.out.cellAt 2 _ rfl
      have C1 := hid (one_write TW.out xn HX.out (by omega))
      go_wp2_with fail
      with_reducible refine C1.out.mono ?_
      rintro e w3 ⟨rfl, tw, kk⟩
      replace TW := hid tw
      have L1 := wL_le bs la xn xp
      have NB : Hid ((wB bs xn xp).length = 20) := by unfold Hid; rw [wB_len]; exact HB1.out
      have NC := hid (wB_BB (n := xn) HB2.out HX.out.2.2.2.2.1)
      clear C1 tw kk X y1 y2
      go_wp2_with fail
      refine ⟨⟨j + 1, by omega, by go_num, _, _, TW, NB, NC, by omega⟩, ?_⟩
      simp [intOf]
      try omega
    · have kb : ¬ (j : Int) < (sn : Int) := by omega
      have hl9 : la.length ≤ 1000000 := by omega
      clear hlt hla hj
      have NB : Hid ((wB bs n p).length = 20) := by unfold Hid; rw [wB_len]; exact HB1.out
      have NC := hid (wB_BB (n := n) HB2.out HP.out.2.2.2.2.1)
      by_cases hm : 0 ≤ m ∧ m < 20
      · obtain ⟨k, rfl⟩ : ∃ k : Nat, m = (k : Int) := ⟨m.toNat, by omega⟩
        have hk : k < bs.length := by rw [HB1.out]; omega
        have hk2 : k < (wB bs n p).length := by rw [NB.out]; omega
        clear hm
        have C1 := hid (one_read TW.out hk)
        have BK := hid (HB2.out _ (List.getElem_mem hk))
        have BK2 := hid (NC.out _ (List.getElem_mem hk2))
        have OT := hid (fun h => wB_other (n := n) (l := p) hk h)
        have SF := hid (fun (h : wE bs.length (k : Int) p.length = 0) => wB_self (l := p) hk h)
        go_wp2_with fail
        with_reducible refine C1.out.mono ?_
        rintro e w3 ⟨q1, rfl, hq1, x1, b1⟩
        have TQ := hid (TW.out.come b1 hq1 x1.lt)
        have X1 := hid x1
        have C2 := hid (one_write TQ.out n HP.out hl9)
        generalize hE : wE bs.length n p.length = E at *
        have HE := hid hE
        clear hE C1 x1 b1 TW hq1
        go_wp2_with fail
        with_reducible refine C2.out.mono ?_
        rintro e w4 ⟨rfl, tw, kk⟩
        replace X1 : Hid (Blk w4 q1 59 (bk bs[k]).toArray) := (kk q1 rfl).trans X1.out
        have TW := hid tw.drop
        have C3 := hid (one_read TW.out hk2)
        clear C2 tw kk TQ
        go_wp2_with fail
        with_reducible refine C3.out.mono ?_
        rintro e w5 ⟨q2, rfl, hq2, x2, b2⟩
        have s5 : w.heap.size ≤ q2 := by have := TW.out.bel.size; omega
        replace TW := hid (TW.out.come b2 hq2 x2.lt)
        replace X1 := hid (X1.out.below b2)
        have X2 := hid x2
        clear C3 x2 b2 hq2
        have BY := hid (fun (h : n ≠ (k : Int)) => bytes_same _ _ _ _ _ _ _ w5 (pad_holds BK.out X1.out) (pad_holds BK.out (by have := X2.out; rw [OT.out h] at this; exact this)))
        go_upto_region 16 with fail
        go_cut [74] from 61 to 74 (fun v wx => v = .bool false ∧ wx = w5)
        case first =>
          by_cases hnm : n = (k : Int)
          · clear BY
            subst hnm
            go_wp2_with fail
            go_meet
            exact ⟨rfl, rfl⟩
          · have C4 := hid (BY.out hnm)
            have tn : (n != (k : Int)) = true := by simpa using hnm
            clear BY hnm
            go_wp2_with fail
            with_reducible refine C4.out.mono ?_
            rintro e w6 ⟨rfl, rfl⟩
            clear C4
            go_wp2_with fail
            go_meet
            exact ⟨rfl, rfl⟩
        case rest =>
        clear BY
        obtain ⟨rfl, rfl⟩ := hcut
        have BZ := hid (fun (h : n = (k : Int)) (hE : E = 0) => by
          subst h
          have e1 := HE.out
          rw [hE] at e1
          have e2 := SF.out e1
          have x2 := X2.out
          rw [e2] at x2
          have hpl : p.length ≤ 64 := (wE_ok.1 e1).2
          have h9 := pad_part HP.out.2.2.2.2.1 hpl x2
          rw [PN.out] at h9
          exact And.intro (show pn ≤ 64 by have := PN.out; omega) (bytes_same _ _ _ _ _ _ _ wc h9 (HP.out.below TW.out.bel)))
        go_upto_region 18 with fail
        go_cut [95] from 75 to 95 (fun v wx => v = .bool false ∧ wx = wc)
        case first =>
          by_cases hE : E = 0
          · by_cases hnm : n = (k : Int)
            · obtain ⟨h64, hby⟩ := BZ.out hnm hE
              have C4 := hid hby
              have pa1 : (0 : Int) ≤ (pn : Int) := by omega
              have pa2 : (pn : Int) ≤ 64 := by omega
              have tn : (n == (k : Int)) = true := by simpa using hnm
              clear BZ hby HE SF
              subst hE
              clear hnm
              go_wp2_with fail
              with_reducible refine C4.out.mono ?_
              rintro e w6 ⟨rfl, rfl⟩
              clear C4
              go_wp2_with fail
              go_meet
              exact ⟨rfl, rfl⟩
            · have tn : (n == (k : Int)) = false := by simpa using hnm
              clear BZ hnm HE SF
              subst hE
              go_wp2_with fail
              go_meet
              exact ⟨rfl, rfl⟩
          · have tE : (E == 0) = false := by simpa using hE
            clear BZ hE
            go_wp2_with fail
            go_meet
            exact ⟨rfl, rfl⟩
        case rest =>
        obtain ⟨rfl, rfl⟩ := hcut
        rename_i wd
        clear BZ X1 BK OT SF HE
        have BK3 := hid BK2.out
        have X3EQ := hid (fun (W : World) (q : Nat) (h : Blk W q 59 (bk (wB bs n p)[k]).toArray) => h)
        have C5F := hid (fun (W : World) (h : One w W (fun g => g = q2) D (wB bs n p) (wL bs la n p)) => one_read h hk2)
        generalize (wB bs n p)[k] = b at *
        have C4 := hid (twin_any (some ⟨q2, 0, none⟩) 64 64 (pad b) _ (pad_holds BK2.out X2.out) (by omega))
        have A6 := hid (Any64.of X2.out)
        have q2l := X2.out.lt
        clear X2
        go_wp2_with fail
        with_reducible refine C4.out.mono ?_
        rintro e w7 ⟨v, rfl, ov, b7⟩
        obtain ⟨va, vc, rfl⟩ := ov.form
        have HV := hid ov.holds
        have VQ : Hid (∀ b o, va = some ⟨b, o, none⟩ → 0 < 64 → ¬ b = q2) := fun g o e h0 hg => by
          have := (ov.1.lt g (by rw [e]; rfl)).1
          omega
        replace TW := hid (TW.out.below b7)
        replace A6 : Hid (Any64 w7 q2) := by obtain ⟨cs, h1, h2, h3⟩ := A6.out; exact ⟨cs, h1.below b7, h2, h3⟩
        clear C4 ov b7 q2l
        go_wp2_with fail
        go_loopw [100] (fun i wr => ∃ j : Nat, j ≤ 64 ∧ i = .int .i64 (j : Int) ∧ Hid (One w wr (fun g => g = q2) D (wB bs n p) (wL bs la n p)) ∧ Hid (Any64 wr q2) ∧ Hid (HoldsB wr va 64 vc (pad b))) (fun i _ => 64 - (intOf i).toNat)
        case atStart => exact ⟨0, by omega, rfl, TW, A6, HV⟩
        case round =>
          clear TW A6 HV
          obtain ⟨j, hj, rfl, TW, A6, HV⟩ := hrel
          have ka : (0 : Int) ≤ (j : Int) := by omega
          by_cases hlt : j < 64
          · have kb : (j : Int) < 64 := by omega
            obtain ⟨cs, a1, a2, a3⟩ := A6.out
            obtain ⟨x, hx⟩ := a3 j hlt
            have c0 := a1.cellAt j _ hx
            have ff : wr.frozen? ⟨q2, j, none⟩ = false := a1.froz
            clear a1 a2 a3 hx
            go_upto_region 25 with fail
            have TW2 : Hid (∀ y : Int, One w (wr.setCell ⟨q2, j, none⟩ (.int .u8 y)) (fun g => g = q2) D (wB bs n p) (wL bs la n p)) := fun y => TW.out.turn ⟨q2, j, none⟩ _ rfl s5
            have A62 : Hid (∀ y : Int, Any64 (wr.setCell ⟨q2, j, none⟩ (.int .u8 y)) q2) := fun y => A6.out.put y
            have HV2 : Hid (∀ y : Int, HoldsB (wr.setCell ⟨q2, j, none⟩ (.int .u8 y)) va 64 vc (pad b)) := fun y => holdsB_onl HV.out ((Onl.refl (fun q => q = q2) wr).setCell ⟨q2, j, none⟩ _ (.inl rfl)) VQ.out
            clear TW A6 HV c0 ff
            go_wp2_with fail
            refine ⟨⟨j + 1, by omega, by go_num, TW2.out _, A62.out _, HV2.out _⟩, ?_⟩
            simp [intOf]
            try omega
          · have kb : ¬ (j : Int) < 64 := by omega
            clear hlt A6
            have C5 := hid (C5F.out wr TW.out)
            go_wp2_with fail
            with_reducible refine C5.out.mono ?_
            rintro e w8 ⟨q3, rfl, hq3, x3, b8⟩
            replace TW := hid (TW.out.below b8)
            have C6 := hid (bytes_same _ _ _ _ _ _ _ _ (pad_holds BK3.out (X3EQ.out _ _ x3)) (HV.out.below b8))
            clear C5 x3 b8 hq3
            go_wp2_with fail
            with_reducible refine C6.out.mono ?_
            rintro e w9 ⟨rfl, rfl⟩
            clear C6
            go_wp2_with fail
            go_ret
            exact ⟨rfl, TW.out.bel⟩
      · have hmo : ¬ (0 ≤ m ∧ m < ((bs.length : Nat) : Int)) := by rw [HB1.out]; exact hm
        have hmo2 : ¬ (0 ≤ m ∧ m < (((wB bs n p).length : Nat) : Int)) := by rw [NB.out]; exact hm
        have NE : Hid (wE bs.length n p.length = 0 → n ≠ m) := fun h e => by subst e; exact hmo (wE_ok.1 h).1
        have C1 := hid (one_miss TW.out hmo)
        have C2 := hid (one_write TW.out n HP.out hl9)
        generalize hE : wE bs.length n p.length = E at *
        clear hE hm hmo
        go_wp2_with fail
        with_reducible refine C1.out.mono ?_
        rintro e w3 ⟨rfl, rfl⟩
        clear C1
        go_wp2_with fail
        with_reducible refine C2.out.mono ?_
        rintro e w4 ⟨rfl, tw, kk⟩
        replace TW := hid tw
        have C3 := hid (one_miss TW.out hmo2)
        clear C2 tw kk
        go_wp2_with fail
        with_reducible refine C3.out.mono ?_
        rintro e w5 ⟨rfl, rfl⟩
        clear C3
        have BY := hid (bytes_same none 0 0 none 0 0 [] w4 (holdsB_none _) (holdsB_none _))
        go_upto_region 16 with fail
        go_cut [74] from 61 to 74 (fun v wx => v = .bool false ∧ wx = w4)
        case first =>
          by_cases hnm : n = m
          · clear BY NE
            subst hnm
            go_wp2_with fail
            go_meet
            exact ⟨rfl, rfl⟩
          · have tn : (n != m) = true := by simpa using hnm
            clear hnm NE
            go_wp2_with fail
            with_reducible refine BY.out.mono ?_
            rintro e w6 ⟨rfl, rfl⟩
            clear BY
            go_wp2_with fail
            go_meet
            exact ⟨rfl, rfl⟩
        case rest =>
        clear BY
        obtain ⟨rfl, rfl⟩ := hcut
        go_upto_region 18 with fail
        go_cut [95] from 75 to 95 (fun v wx => v = .bool false ∧ wx = wc)
        case first =>
          by_cases hE : E = 0
          · have tn : (n == m) = false := by have := NE.out hE; simpa using this
            clear NE
            subst hE
            go_wp2_with fail
            go_meet
            exact ⟨rfl, rfl⟩
          · have tE : (E == 0) = false := by simpa using hE
            clear hE NE
            go_wp2_with fail
            go_meet
            exact ⟨rfl, rfl⟩
        case rest =>
        obtain ⟨rfl, rfl⟩ := hcut
        have C4 := hid (twin_any none 0 0 [] _ (holdsB_none wc) (by omega))
        go_wp2_with fail
        with_reducible refine C4.out.mono ?_
        rintro e w7 ⟨v, rfl, ov, b7⟩
        obtain ⟨va, vc, rfl⟩ := ov.form
        have HV := hid ov.holds
        replace TW := hid (TW.out.below b7)
        clear C4 ov b7 NE
        go_wp2_with fail
        go_loopw [100] (fun i wr => i = .int .i64 0 ∧ Hid (One w wr No D (wB bs n p) (wL bs la n p)) ∧ Hid (HoldsB wr va 0 vc [])) (fun i _ => 0)
        case atStart => exact ⟨rfl, TW, HV⟩
        case round =>
          clear TW HV
          obtain ⟨rfl, TW, HV⟩ := hrel
          have C5 := hid (one_miss TW.out hmo2)
          go_wp2_with fail
          with_reducible refine C5.out.mono ?_
          rintro e w8 ⟨rfl, rfl⟩
          have C6 := hid (bytes_same _ _ _ _ _ _ _ _ (holdsB_none wr) HV.out)
          clear C5
          go_wp2_with fail
          with_reducible refine C6.out.mono ?_
          rintro e w9 ⟨rfl, rfl⟩
          clear C6
          go_wp2_with fail
          go_ret
          exact ⟨rfl, TW.out.bel⟩

theorem walk (sa : Option Addr) (sn sc : Nat) (os : List Opp) (n m : Int) (pa : Option Addr) (pn pc : Nat) (z : List Int) (w : World) (hs : HoldsO w sa sn sc os) (hs2 : ∀ q ∈ os, I64 q.n) (hn : I64 n) (hm : I64 m) (hp : IsRow .u8 w pa pn pc z) :
    Calls Try.prog 5 #[.slice sa sn sc, .int .i64 n, .int .i64 m, .slice pa pn pc] w fun e w' => e = .returned (.bool true) ∧ Below w.heap.size w w' :=
  main sa sn sc os n m pa pn pc _ w hs (holdsB_row hp)

theorem own : ownKnob Try.prog.godebug = none := by kernel_rfl
theorem laidOut : laidOutB Try.prog = true := by kernel_rfl

set_option maxRecDepth 100000 in
theorem lifted (os : Os) (started : os.Started) (H : Type) (enc : TypeId × Value → H) :
    ReturnsInHanded {} Try.checked os 5 .any (Rows.diskApartSpec.pre6 enc Try.prog Try.f5 Rows.diskApartRow.domain false) (Rows.diskApartSpec.post enc Try.prog Try.f5 false true false false) := by
  refine returnsInHanded_of_change (C := Try.checked) own started (by kernel_rfl) Try.func5
    (ChangeSpec.witness6 (enc := enc) (C := Try.checked) false ⟨#[], #[.slice none 0 0, .int .i64 0, .int .i64 0, .slice none 0 0], []⟩ 8 (by kernel_rfl) (by kernel_rfl) (by kernel_rfl) (by kernel_rfl)) ?_
  intro W base args ds gs before hval0 hW hcnd _
  have hval : ∀ (j : Nat) t v, Try.f5.params[j]? = some t → args[j]? = some v → Value.okWide Try.prog W .any base t v := hval0
  have hW' := hW
  obtain ⟨p, q, hA0, hV, rfl, hfz, hnd⟩ := hW
  have hA : DataW.TrodAll enc Try.prog W 0 (fun _ => true) true Try.f5.params.toList args.toList ds p := hA0
  rw [Try.params5] at hA hval
  obtain ⟨v0, vs0, d0, ds0, p0, q0, hargs, rfl, rfl, h0, r0⟩ := trodAll_cons hA
  obtain ⟨v1, vs1, d1, ds1, p1, q1, rfl, rfl, rfl, h1, r1⟩ := trodAll_cons r0
  obtain ⟨v2, vs2, d2, ds2, p2, q2, rfl, rfl, rfl, h2, r2⟩ := trodAll_cons r1
  obtain ⟨v3, vs3, d3, ds3, p3, q3, rfl, rfl, rfl, h3, r3⟩ := trodAll_cons r2
  obtain ⟨rfl, rfl, rfl⟩ := trodAll_nil r3
  obtain rfl : args = #[v0, v1, v2, v3] := by cases args; simp_all
  obtain ⟨rfl, rfl⟩ := trodVars_none hV
  have lt0 : ∀ x ∈ p0, x.block < W.heap.size := by obtain ⟨m, hm⟩ := h0; exact DataW.trod_lt m _ _ _ hm
  have lt1 : ∀ x ∈ p1, x.block < W.heap.size := by obtain ⟨m, hm⟩ := h1; exact DataW.trod_lt m _ _ _ hm
  have lt2 : ∀ x ∈ p2, x.block < W.heap.size := by obtain ⟨m, hm⟩ := h2; exact DataW.trod_lt m _ _ _ hm
  have lt3 : ∀ x ∈ p3, x.block < W.heap.size := by obtain ⟨m, hm⟩ := h3; exact DataW.trod_lt m _ _ _ hm
  obtain ⟨a0, len0, cap0, rfl⟩ := okWide_slice Try.underlying22 (hval 0 22 v0 rfl rfl)
  obtain ⟨z0, w0, k0⟩ := val_rowO Try.underlying22 h0
  obtain ⟨a1, rfl, w1⟩ := val_i64 Try.underlying3 (hval 1 3 v1 rfl rfl) h1
  obtain ⟨a2, rfl, w2⟩ := val_i64 Try.underlying3 (hval 2 3 v2 rfl rfl) h2
  obtain ⟨a3, len3, cap3, rfl⟩ := okWide_slice Try.underlying34 (hval 3 34 v3 rfl rfl)
  obtain ⟨z3, w3⟩ := val_row Try.underlying34 Try.underlying5 (by kernel_rfl) h3
  clear hA0 hval0
  refine (walk a0 len0 cap0 z0 a1 a2 a3 len3 cap3 z3 W w0 k0 w1 w2 w3).mono fun e W' ⟨he, bel⟩ => ?_
  subst he
  exact ⟨_, rfl, _, _, _, [], _, [], hW', trodAll_mk1 (shut_bool Try.underlying4 _), (trodAll_cons_mk (Below.trod laidOut (by kernel_rfl) (of_decide_eq_true (by kernel_rfl)) h0 bel lt0) (trodAll_cons_mk (Below.trod laidOut (by kernel_rfl) (of_decide_eq_true (by kernel_rfl)) h1 bel lt1) (trodAll_cons_mk (Below.trod laidOut (by kernel_rfl) (of_decide_eq_true (by kernel_rfl)) h2 bel lt2) (trodAll_cons_mk (Below.trod laidOut (by kernel_rfl) (of_decide_eq_true (by kernel_rfl)) h3 bel lt3) trodAll_mk0)))), rfl, bel.frame _, fun h => by cases h⟩

theorem over : Rows.diskApartRow.holds Try.pinned (OpenSpec.ofChange Rows.diskApartSpec) :=
  OpenClaim.holds_of_wide 5 Try.f5 rfl rfl rfl rfl rfl rfl rfl ⟨rfl, rfl, rfl, rfl, rfl⟩ rfl rfl rfl rfl rfl (by kernel_rfl) Try.func5 (by kernel_rfl)
    (of_decide_eq_true (by kernel_rfl)) (by unfold Func.isWrapper; first | (rw [if_pos (by decide +kernel)]; kernel_rfl) | (rw [if_neg (by decide +kernel)]; exact ⟨rfl, rfl⟩))
    (fun os started H enc _ => lifted os started H enc)

theorem proved : Rows.DiskApartSaid := over
#print axioms proved
end Go.Proofs.Ytpkifcoichjnbaa.diskApart
