/- StripKeeps: for all bytes and numbers whose values are at most 1048576 in all the law's call returns true: what is handed in stays, its spare room too, and what is answered is new memory. Conditions: the bound of the second form. -/
import Derived.Test.YtmdhcigkhapolabSU
import Derived.Deep.RegionHeld3
import Derived.Deep.DeepCutAuto
import Derived.Deep.CutBlock
import Derived.Test.YtmdhcigkhapolabOpenS
namespace Go.Proofs.Ytmdhcigkhapolab.stripKeeps
open Go.ChangeShapes Go.WideShapes Go.ChangeAt Go.RowKit
set_option linter.unusedVariables false

/-- What stands behind the first region: two rows. -/
def UV (w4 wx : World) (Lu Lv : List Int) (v u : Value) : Prop := ∃ gu nu cu gv nv cv : Nat, v = .slice (some ⟨gu, 0, none⟩) nu cu ∧ u = .slice (some ⟨gv, 0, none⟩) nv cv ∧ Row w4.heap.size wx gu nu cu Lu ∧ Row w4.heap.size wx gv nv cv Lv ∧ gu ≠ gv ∧ Below w4.heap.size w4 wx

set_option maxRecDepth 100000 in
set_option maxHeartbeats 40000000 in
theorem main (a : Option Addr) (n cap : Nat) (l : List Int) (a2 : Option Addr) (m cap2 : Nat) (p : List Int) (x : Int) (w : World) (HB : Hid (HoldsB w a n cap l)) (HP : Hid (HoldsB w a2 m cap2 p)) (hn : n ≤ 1048576) (hm : m ≤ 1048576) (x0 : 0 ≤ x) (x1 : x ≤ 18446744073709551615)
    (E : Int) (G : List Int) (GU : Hid (∀ a c w, HoldsB w a m c p → Calls Try.prog 27 #[.slice a m c] w fun e w' => ∃ v, e = .returned (.tuple #[v, .int .i64 E]) ∧ Own w.heap.size w' v G.length G ∧ Below w.heap.size w w'))
    (tE : (E == 0) = decide (m ≤ 60000)) (hG : G.length ≤ 60004) (HG : Hid (m ≤ 60000 → E = 0 ∧ G = gd p ∧ md G = (p, -1, 0)))
    (RT : Hid (∀ a k c w, HoldsB w a k c (l ++ (numB m ++ p)) → k ≤ 140737488355328 → Calls Try.prog 25 #[.slice a k c, .int .i64 n] w fun e w' => ∃ v P, e = .returned (.tuple #[v, .int .i64 P, .int .i64 0]) ∧ Own w.heap.size w' v m p ∧ Below w.heap.size w w')) :
    Calls Try.prog 10 #[.slice a n cap, .slice a2 m cap2, .int .u64 x] w fun e w' => e = .returned (.bool true) ∧ Below w.heap.size w w' := by
  have O2 := hid (holds_arr [71, 72] #[.int .u8 71, .int .u8 72] 2 rfl rfl (BBd (by decide)) (by omega))
  have sx := shelf_le x
  have sm := shelf_le (m : Int)
  go_enter Try.func10, Try.ntmps10
  go_wp2_with fail
  with_reducible refine (awake3_any _).mono ?_
  rintro e w1 ⟨rfl, q1⟩
  have B0 : Below w1.heap.size w1 (w1.alloc (.cells #[] 5)) := below_alloc' _ _
  have A0 := hid ((HB.out.below q1).below B0)
  go_wp2_with (at_builtin; refine cat_own _ rfl (.tmp 27) (.tmp 28) rfl w1.heap.size 0 _ [] rfl (own_lit w1) (by simp) a n cap l rfl A0.out (by omega) ?_)
  intro v2 w2 h2 b2
  have b2' := B0.trans b2
  have hs2 := b2'.size
  clear b2 A0
  go_wp2_with (at_builtin; refine cat_own _ rfl (.tmp 29) (.tmp 30) rfl w1.heap.size n v2 l rfl (h2.below (B := 0) (below_alloc' _ _)) (by simp; omega) _ 2 2 [71, 72] rfl (O2.out _ _ (by simp)) (by omega) ?_)
  intro v3 w3 h3 b3
  obtain ⟨gi, ci, rfl, hri⟩ := h3.rowOf (by omega)
  have b3' : Below w1.heap.size w1 w3 := (b2'.trans ((below_alloc' w2 _).mono hs2)).trans b3
  have q3 := q1.trans (b3'.mono q1.size)
  have cmi := hri.capm
  have lti := hri.lt
  have HI : Hid (HoldsB w3 (some ⟨gi, 0, none⟩) (n + 2) ci (l ++ [71, 72])) := hri.holds
  have HJ : Hid (HoldsB w3 (some ⟨gi, 0, none⟩) n ci l) := by
    have hh := hri.holds
    refine ⟨HB.out.1, by omega, by omega, by omega, HB.out.2.2.2.2.1, fun e => by simp at e, fun hp => ?_⟩
    obtain ⟨b', o', e, hc⟩ := hh.2.2.2.2.2.2 (by omega)
    cases e
    refine ⟨gi, 0, rfl, fun j hj => ?_⟩
    rw [hc j (by omega), List.getElem?_append_left (by rw [HB.out.1]; exact hj)]
  clear h2 h3 b2' b3 q1 hri hs2 b3'
  have B3 : Below w3.heap.size w3 (w3.alloc (.cells #[] 5)) := below_alloc' _ _
  have A3 := hid ((HP.out.below q3).below B3)
  go_wp2_with (at_builtin; refine cat_own _ rfl (.tmp 32) (.tmp 33) rfl w3.heap.size 0 _ [] rfl (own_lit w3) (by simp) a2 m cap2 p rfl A3.out (by omega) ?_)
  intro v4 w4 h4 b4
  obtain ⟨aq, cq, rfl⟩ := h4.form
  have b4' := B3.trans b4
  have q4 := q3.trans (b4'.mono q3.size)
  have HQ := hid h4.holds
  have HJ4 := hid (HJ.out.below b4')
  have s3 := q3.size
  have s4 := b4'.size
  clear b4 A3 h4 q3
  have i0 : (0 : Int) ≤ (n : Int) := by omega
  have i1 : (n : Int) ≤ ((n + 2 : Nat) : Int) := by omega
  have i2 : (n : Int) ≤ (n : Int) + 2 := by omega
  have i3 : (n : Int) ≤ (ci : Int) := by omega
  have C1 : Hid (∀ W, Below w4.heap.size w4 W → Calls Try.prog 13 #[.slice (some ⟨gi, 0, none⟩) n ci, .int .u64 x] W fun e w' => ∃ g k c, e = .returned (.slice (some ⟨g, 0, none⟩) k c) ∧ Row W.heap.size w' g k c (l ++ numB x) ∧ Below W.heap.size W w') := fun W hW =>
    (lay_any _ n ci l x W (HJ4.out.below hW) x0 x1 (by omega)).mono fun e w' ⟨g, h1, h2, h3⟩ => ⟨g, _, _, h1, h2, h3⟩
  have C2 : Hid (∀ W, Below w4.heap.size w4 W → Calls Try.prog 18 #[.slice (some ⟨gi, 0, none⟩) n ci, .slice aq m cq] W fun e w' => ∃ g k c, e = .returned (.slice (some ⟨g, 0, none⟩) k c) ∧ Row W.heap.size w' g k c (l ++ (numB m ++ p)) ∧ Below W.heap.size W w') := fun W hW =>
    (laybytes_any _ n ci l aq m cq p W (HJ4.out.below hW) (HQ.out.below hW) (by omega)).mono fun e w' ⟨g, c, h1, h2, h3⟩ => ⟨g, _, c, h1, h2, h3⟩
  go_upto_region 5 with fail
  go_cut [9, 10] (fun v u wx => UV w4 wx (l ++ numB x) (l ++ (numB m ++ p)) v u)
  case first =>
    have FIRST : Hid True := trivial
    go_region_held3 (fun w' => True) (trivial)
      (first
      | (go_at_call 13; first
        | (have FF := FIRST; clear FF FIRST; refine (C1.out _ (by repeat (first | exact Below.refl _ _ | assumption | refine Below.drew ?_ | refine below_drewN ?_ _))).mono ?_; rintro e wA ⟨gu, nu, cu, rfl, hu, bu⟩; have sA : w4.heap.size ≤ wA.heap.size := bu.size; have ltu := hu.lt; have hA : Below w4.heap.size w4 wA := Below.trans (by repeat (first | exact Below.refl _ _ | assumption | refine Below.drew ?_ | refine below_drewN ?_ _)) bu)
        | (refine (C1.out _ (by repeat (first | exact Below.refl _ _ | assumption | refine Below.drew ?_ | refine below_drewN ?_ _))).mono ?_; rintro e wB ⟨gu, nu, cu, rfl, hu, bu⟩; have ltu := hu.lt; have hv2 := hv.below (Below.trans (show Below wA.heap.size wA _ from (by repeat (first | exact Below.refl _ _ | assumption | refine Below.drew ?_ | refine below_drewN ?_ _))) bu); have hB2 : Below w4.heap.size w4 wB := hA.trans ((Below.trans (show Below wA.heap.size wA _ from (by repeat (first | exact Below.refl _ _ | assumption | refine Below.drew ?_ | refine below_drewN ?_ _))) bu).mono sA)))
      | (go_at_call 18; first
        | (have FF := FIRST; clear FF FIRST; refine (C2.out _ (by repeat (first | exact Below.refl _ _ | assumption | refine Below.drew ?_ | refine below_drewN ?_ _))).mono ?_; rintro e wA ⟨gv, nv, cv, rfl, hv, bv⟩; have sA : w4.heap.size ≤ wA.heap.size := bv.size; have ltv := hv.lt; have hA : Below w4.heap.size w4 wA := Below.trans (by repeat (first | exact Below.refl _ _ | assumption | refine Below.drew ?_ | refine below_drewN ?_ _)) bv)
        | (refine (C2.out _ (by repeat (first | exact Below.refl _ _ | assumption | refine Below.drew ?_ | refine below_drewN ?_ _))).mono ?_; rintro e wB ⟨gv, nv, cv, rfl, hv, bv⟩; have ltv := hv.lt; have hu2 := hu.below (Below.trans (show Below wA.heap.size wA _ from (by repeat (first | exact Below.refl _ _ | assumption | refine Below.drew ?_ | refine below_drewN ?_ _))) bv); have hB2 : Below w4.heap.size w4 wB := hA.trans ((Below.trans (show Below wA.heap.size wA _ from (by repeat (first | exact Below.refl _ _ | assumption | refine Below.drew ?_ | refine below_drewN ?_ _))) bv).mono sA))))
    all_goals
      go_wp2_with fail
      go_meet
      first
      | exact ⟨gu, nu, cu, gv, nv, cv, rfl, rfl, hu2.own.base (by first | exact Nat.le_refl _ | simp), hv.own.base (by first | exact sA | (simp; exact sA)), by first | omega | (simp at ltv; omega), hB2⟩
      | exact ⟨gu, nu, cu, gv, nv, cv, rfl, rfl, hu.own.base (by first | exact sA | (simp; exact sA)), hv2.own.base (by first | exact Nat.le_refl _ | simp), by first | omega | (simp at ltu; omega), hB2⟩
  case rest =>
    obtain ⟨gu, nu, cu, gv, nv, cv, rfl, rfl, hu, hv, hne, hB5⟩ := hcut
    have q4s := q4.size
    have bun : Bun w w3 w4 w4.heap.size gv nv cv (l ++ (numB m ++ p)) wc := ⟨q4.trans (hB5.mono q4s), b4'.trans (hB5.mono s4), hB5, hv⟩
    have ltu := hu.lt
    have ltv := hv.lt
    have s5 := hB5.size
    have cmu := hu.capm
    have cmv := hv.capm
    have nvb : nv ≤ 4194304 := by have := hv.len; simp [numB_len, HB.out.1, HP.out.1] at this; omega
    clear C1 C2 HJ4 b4' q4 hv hB5
    go_wp2_with fail
    with_reducible refine (GU.out _ _ _ (HQ.out.below bun.bq)).mono ?_
    rintro e w6 ⟨v6, rfl, h6, b6⟩
    obtain ⟨ag, cg, rfl⟩ := h6.form
    have bun6 := bun.below b6
    have hu6 := hu.below b6
    have s6 := b6.size
    clear bun hu b6
    have B6 : Below w6.heap.size w6 (w6.alloc (.cells #[] 5)) := below_alloc' _ _
    have A6 := hid ((HB.out.below bun6.q).below B6)
    go_wp2_with (at_builtin; refine cat_own _ rfl (.tmp 53) (.tmp 54) rfl w6.heap.size 0 _ [] rfl (own_lit w6) (by simp) a n cap l rfl A6.out (by omega) ?_)
    intro v7 w7 h7 b7
    have b7' := B6.trans b7
    have hs7 := b7'.size
    clear b7 A6
    go_wp2_with (at_builtin; refine cat_own _ rfl (.tmp 55) (.tmp 56) rfl w6.heap.size n v7 l rfl (h7.below (B := 0) (below_alloc' _ _)) (by simp; omega) _ 2 2 [71, 72] rfl (O2.out _ _ (by simp)) (by omega) ?_)
    intro v8 w8 h8 b8
    obtain ⟨a8, c8, rfl⟩ := h8.form
    have b8' : Below w6.heap.size w6 w8 := (b7'.trans ((below_alloc' w7 _).mono hs7)).trans b8
    have bun8 := bun6.below b8'
    have hu8 := hu6.below b8'
    have hg8 := h6.below (B := 0) b8'
    have H8 := hid h8.holds
    clear h6 h7 h8 b7' b8 b8' bun6 hu6 B6
    go_wp2_with fail
    with_reducible refine (bytes_same _ _ _ _ _ _ _ _ (HI.out.below bun8.bin) H8.out).mono ?_
    rintro e w9 ⟨rfl, rfl⟩
    go_wp2_with fail
    with_reducible refine (bytes_same _ _ _ _ _ _ _ _ (HQ.out.below bun8.bq) (HP.out.below bun8.q)).mono ?_
    rintro e w9 ⟨rfl, rfl⟩
    have nG : G.length ≤ 60004 := hG
    obtain ⟨kG, hkG⟩ : ∃ k, k = G.length := ⟨_, rfl⟩
    rw [← hkG] at hg8 nG
    obtain ⟨bS, hbS⟩ : ∃ b, b = decide (m ≤ 60000) := ⟨_, rfl⟩
    have tM : decide ((m : Int) ≤ 60000) = bS := by rw [hbS, Bool.eq_iff_iff]; simp; omega
    have tM2 : decide (m ≤ 60000) = bS := hbS.symm
    have HS := hid hbS
    rw [← hbS] at tE
    clear hbS
    go_wp2_with fail
    go_loopw [76] (fun i wr => ∃ (k : Nat) (L' : List Int), k ≤ nu ∧ i = .int .i64 k ∧ Row w4.heap.size wr gu nu cu L' ∧ Bun w w3 w4 w4.heap.size gv nv cv (l ++ (numB m ++ p)) wr ∧ Own wc.heap.size wr (.slice ag kG cg) kG G) (fun i _ => nu - (intOf i).toNat)
    case atStart => exact ⟨0, _, by omega, rfl, hu8, bun8, hg8⟩
    case round =>
      clear hu8 bun8 hg8 H8
      obtain ⟨k, L', hk, rfl, hr, hbun, hown⟩ := hrel
      by_cases hlt : k < nu
      · have cx := hr.cellAt k hlt
        have fx := hr.frozenAt k
        have xb := hr.2.getD k
        have XB := xor_back _ 1 xb.1 xb.2 (by omega) (by omega)
        have R1 := hid (hr.stored k _ XB.1 XB.2.1)
        have R2 := hid (hbun.only (Only.set gu k wr (.int .u8 (bits .xor .u8 (L'[k]?.getD 0) 1))) (by omega) (by omega) (by omega) (by omega))
        have R3 := hid (hown.only (Only.set gu k wr (.int .u8 (bits .xor .u8 (L'[k]?.getD 0) 1))) (by omega))
        clear hr hbun hown XB
        generalize L'[k]?.getD 0 = xx at *
        go_wp2
        go_roundw
        case rel => exact ⟨k + 1, _, by omega, by go_num, R1.out, R2.out, R3.out⟩
        case measure => simp [intOf]; omega
      · clear hr
        go_wp2_with fail
        go_loopw [88] (fun i wr => ∃ (k : Nat) (L' : List Int), k ≤ kG ∧ i = .int .i64 k ∧ Bun w w3 w4 w4.heap.size gv nv cv (l ++ (numB m ++ p)) wr ∧ Own wc.heap.size wr (.slice ag kG cg) kG L') (fun i _ => kG - (intOf i).toNat)
        case atStart => exact ⟨0, _, by omega, rfl, hbun, hown⟩
        case round =>
          clear hbun hown
          obtain ⟨k2, L2, hk2, rfl, hbun, hown⟩ := hrel
          by_cases hlt2 : k2 < kG
          · obtain ⟨gg, c', eg, hr⟩ := hown.rowOf (by omega)
            cases eg
            have cx := hr.cellAt k2 hlt2
            have fx := hr.frozenAt k2
            have ltg := hr.lt
            have xb := hr.2.getD k2
            have XB := xor_back _ 255 xb.1 xb.2 (by omega) (by omega)
            have R1 : Hid (Own wc.heap.size (wr.setCell ⟨gg, k2, none⟩ (.int .u8 (bits .xor .u8 (L2[k2]?.getD 0) 255))) (.slice (some ⟨gg, 0, none⟩) kG cg) kG (L2.set k2 (bits .xor .u8 (L2[k2]?.getD 0) 255))) := (hr.stored k2 _ XB.1 XB.2.1).own
            have R2 := hid (hbun.only (Only.set gg k2 wr (.int .u8 (bits .xor .u8 (L2[k2]?.getD 0) 255))) (by omega) (by omega) (by omega) (by omega))
            clear hr hbun hown XB
            generalize L2[k2]?.getD 0 = xx at *
            go_wp2
            go_roundw
            case rel => exact ⟨k2 + 1, _, by omega, by go_num, R2.out, R1.out⟩
            case measure => simp [intOf]; omega
          · clear hown
            go_wp2_with fail
            with_reducible refine (bytes_same _ _ _ _ _ _ _ _ (HJ.out.below hbun.bin) (HB.out.below hbun.q)).mono ?_
            rintro e w9 ⟨rfl, rfl⟩
            go_wp2_with fail
            with_reducible refine (bytes_same _ _ _ _ _ _ _ _ (HQ.out.below hbun.bq) (HP.out.below hbun.q)).mono ?_
            rintro e w9 ⟨rfl, rfl⟩
            go_wp2_with fail
            with_reducible refine (rtext_any a2 m cap2 p _ (HP.out.below hbun.q) (by omega)).mono ?_
            rintro e w10 ⟨v10, rfl, h10, b10⟩
            obtain ⟨a10, c10, rfl⟩ := h10.form
            have bun10 := hbun.below b10
            clear b10 hbun
            go_wp2_with fail
            with_reducible refine (after_any a n cap l _ _ _ _ _ (HB.out.below bun10.q) h10.holds (by omega)).mono ?_
            rintro e w11 ⟨v11, rfl, h11, b11⟩
            obtain ⟨a11, c11, rfl⟩ := h11.form
            have bun11 := bun10.below b11
            clear b11 bun10 h10
            go_wp2_with fail
            with_reducible refine (bytes_same _ _ _ _ _ _ _ _ bun11.rv.holds h11.holds).mono ?_
            rintro e w12 ⟨rfl, rfl⟩
            clear h11
            cases bS
            · have hl : 60000 < m := by have := HS.out.symm; simpa using this
              have tL : decide ((60000 : Int) < m) = true := by simp; omega
              have tL2 : decide (60000 < m) = true := by simp; omega
              clear HS tE tM tM2
              go_wp2_with fail
              with_reducible refine (bytes_same _ _ _ _ _ _ _ _ (HJ.out.below bun11.bin) (HB.out.below bun11.q)).mono ?_
              rintro e w12 ⟨rfl, rfl⟩
              go_wp2_with fail
              with_reducible refine (bytes_same _ _ _ _ _ _ _ _ (HQ.out.below bun11.bq) (HP.out.below bun11.q)).mono ?_
              rintro e w12 ⟨rfl, rfl⟩
              go_wp2
              go_ret
              exact ⟨rfl, bun11.q⟩
            · have hl : m ≤ 60000 := by have := HS.out.symm; simpa using this
              have tL : decide ((60000 : Int) < m) = false := by simp; omega
              have tL2 : decide (60000 < m) = false := by simp; omega
              obtain ⟨rfl, hGG, hMD⟩ := HG.out hl
              have kp : 0 < kG := by rw [hkG, hGG, gd_len]; omega
              have ME := hid (fun (a : Option Addr) (k c : Nat) (W : World) (h : HoldsB W a k c G) => mend_any a k c G W h)
              rw [hMD] at ME
              have LP := hid HP.out.1
              have s11 := bun11.bq.size
              have vl := bun11.rv.lt
              rw [← hkG] at GU
              clear HS tE tM tM2 HG hGG hMD hkG
              go_wp2_with fail
              with_reducible refine (GU.out _ _ _ (HQ.out.below bun11.bq)).mono ?_
              rintro e w12 ⟨v12, rfl, h12, b12⟩
              obtain ⟨gw, cw, rfl, hrw⟩ := h12.rowOf kp
              have bun12 := bun11.below b12
              have ltw := hrw.lt
              have s12 := b12.size
              have cmw := hrw.capm
              clear b12 bun11 h12
              go_wp2_with fail
              with_reducible refine (ME.out _ _ _ _ hrw.holds).mono ?_
              rintro e w13 ⟨v13, rfl, h13, b13⟩
              obtain ⟨a13, c13, rfl⟩ := h13.form
              have bun13 := bun12.below b13
              have hrw13 := hrw.below b13
              have s13 := b13.size
              clear b13 bun12 hrw
              go_wp2_with fail
              with_reducible refine (RT.out _ _ _ _ bun13.rv.holds (by omega)).mono ?_
              rintro e w14 ⟨v14, P14, rfl, h14, b14⟩
              obtain ⟨a14, c14, rfl⟩ := h14.form
              have bun14 := bun13.below b14
              have hrw14 := hrw13.below b14
              have hm14 := h13.below (B := 0) b14
              have s14 := b14.size
              clear b14 bun13 hrw13 h13
              go_wp2_with fail
              go_loopw [162] (fun i wr => ∃ (k : Nat) (L' : List Int), k ≤ kG ∧ i = .int .i64 k ∧ Row w11.heap.size wr gw kG cw L' ∧ Bun w w3 w4 w4.heap.size gv nv cv (l ++ (numB m ++ p)) wr ∧ Own w12.heap.size wr (.slice a13 p.length c13) p.length p ∧ Own w13.heap.size wr (.slice a14 m c14) m p) (fun i _ => kG - (intOf i).toNat)
              case atStart => exact ⟨0, _, by omega, rfl, hrw14, bun14, hm14, h14⟩
              case round =>
                clear hrw14 bun14 hm14 h14
                obtain ⟨k3, L3, hk3, rfl, hr, hbun, ho1, ho2⟩ := hrel
                by_cases hlt3 : k3 < kG
                · have cx := hr.cellAt k3 hlt3
                  have fx := hr.frozenAt k3
                  have xb := hr.2.getD k3
                  have XB := xor_back _ 255 xb.1 xb.2 (by omega) (by omega)
                  have R1 := hid (hr.stored k3 _ XB.1 XB.2.1)
                  have R2 := hid (hbun.only (Only.set gw k3 wr (.int .u8 (bits .xor .u8 (L3[k3]?.getD 0) 255))) (by omega) (by omega) (by omega) (by omega))
                  have R3 := hid (ho1.only (Only.set gw k3 wr (.int .u8 (bits .xor .u8 (L3[k3]?.getD 0) 255))) (by omega))
                  have R4 := hid (ho2.only (Only.set gw k3 wr (.int .u8 (bits .xor .u8 (L3[k3]?.getD 0) 255))) (by omega))
                  clear hr hbun ho1 ho2 XB
                  generalize L3[k3]?.getD 0 = xx at *
                  go_wp2
                  go_roundw
                  case rel => exact ⟨k3 + 1, _, by omega, by go_num, R1.out, R2.out, R3.out, R4.out⟩
                  case measure => simp [intOf]; omega
                · clear hr
                  have hq0 := hbun.q
                  have hrv := hbun.rv
                  clear hbun
                  go_wp2_with fail
                  go_loopw [174] (fun i wr => ∃ (k : Nat) (L' : List Int), k ≤ nv ∧ i = .int .i64 k ∧ Row w4.heap.size wr gv nv cv L' ∧ Below w.heap.size w wr ∧ Own w12.heap.size wr (.slice a13 p.length c13) p.length p ∧ Own w13.heap.size wr (.slice a14 m c14) m p) (fun i _ => nv - (intOf i).toNat)
                  case atStart => exact ⟨0, _, by omega, rfl, hrv, hq0, ho1, ho2⟩
                  case round =>
                    clear hrv hq0 ho1 ho2
                    obtain ⟨k4, L4, hk4, rfl, hr, hq, ho1, ho2⟩ := hrel
                    by_cases hlt4 : k4 < nv
                    · have cx := hr.cellAt k4 hlt4
                      have fx := hr.frozenAt k4
                      have xb := hr.2.getD k4
                      have XB := xor_back _ 255 xb.1 xb.2 (by omega) (by omega)
                      have R1 := hid (hr.stored k4 _ XB.1 XB.2.1)
                      have R2 := hid (hq.trans ((Only.set gv k4 wr (.int .u8 (bits .xor .u8 (L4[k4]?.getD 0) 255))).below (B := w.heap.size) (by omega)))
                      have R3 := hid (ho1.only (Only.set gv k4 wr (.int .u8 (bits .xor .u8 (L4[k4]?.getD 0) 255))) (by omega))
                      have R4 := hid (ho2.only (Only.set gv k4 wr (.int .u8 (bits .xor .u8 (L4[k4]?.getD 0) 255))) (by omega))
                      clear hr hq ho1 ho2 XB
                      generalize L4[k4]?.getD 0 = xx at *
                      go_wp2
                      go_roundw
                      case rel => exact ⟨k4 + 1, _, by omega, by go_num, R1.out, R2.out, R3.out, R4.out⟩
                      case measure => simp [intOf]; omega
                    · clear hr
                      go_wp2_with fail
                      with_reducible refine (bytes_same _ _ _ _ _ _ _ _ ho1.holds (HP.out.below hq)).mono ?_
                      rintro e w15 ⟨rfl, rfl⟩
                      go_wp2_with fail
                      with_reducible refine (bytes_same _ _ _ _ _ _ _ _ ho2.holds (HP.out.below hq)).mono ?_
                      rintro e w15 ⟨rfl, rfl⟩
                      go_wp2
                      go_ret
                      exact ⟨rfl, hq⟩

theorem walk (a : Option Addr) (n cap : Nat) (z : List Int) (a2 : Option Addr) (m cap2 : Nat) (z2 : List Int) (x : Int) (w : World) (h : IsRow .u8 w a n cap z) (sc : cap ≤ 1048576) (h2 : IsRow .u8 w a2 m cap2 z2) (sc2 : cap2 ≤ 1048576) (hx : U64 x) :
    Calls Try.prog 10 #[.slice a n cap, .slice a2 m cap2, .int .u64 x] w fun e w' => e = .returned (.bool true) ∧ Below w.heap.size w w' := by
  have HB := holdsB_row h
  have HP := holdsB_row h2
  have hn : n ≤ 1048576 := by have := HB.2.2.1; omega
  have hm : m ≤ 1048576 := by have := HP.2.2.1; omega
  have gl : (gB (z2.take m)).length ≤ 60004 := by
    unfold gB
    split
    · simp
    · rw [gd_len]; omega
  have gt : (gE (z2.take m) == 0) = decide (m ≤ 60000) := by
    unfold gE
    rw [HP.1]
    by_cases hl : 60000 < m
    · rw [if_pos hl, Bool.eq_iff_iff]; simp; omega
    · rw [if_neg hl, Bool.eq_iff_iff]; simp; omega
  have T := rt_pre (z.take n) (z2.take m) m HP.1 hm
  rw [HB.1] at T
  refine main a n cap _ a2 m cap2 _ x w HB HP hn hm hx.1 hx.2 (gE (z2.take m)) (gB (z2.take m)) (fun a c w h => guard_any a m c _ w h) gt gl (fun hl => ?_) (fun a k c w h hk => ?_)
  · have hl' : ¬ 60000 < (z2.take m).length := by rw [HP.1]; omega
    have e2 : gB (z2.take m) = gd (z2.take m) := by unfold gB; rw [if_neg hl']
    refine ⟨by unfold gE; rw [if_neg hl'], e2, ?_⟩
    rw [e2]
    exact md_gd _ (by rw [HP.1]; exact hl)
  · have K := readbytes_any a k c _ (n : Int) w h ⟨by omega, by omega⟩ hk
    rw [T.1, T.2, HP.1] at K
    exact K.mono fun e w' ⟨v, h1, h2, h3⟩ => ⟨v, _, h1, h2, h3⟩

theorem own : ownKnob Try.prog.godebug = none := by kernel_rfl
theorem laidOut : laidOutB Try.prog = true := by kernel_rfl

set_option maxRecDepth 100000 in
theorem lifted (os : Os) (started : os.Started) (H : Type) (enc : TypeId × Value → H) (F : Stop.Interp) :
    ReturnsInHanded {} Try.checked os 10 .any ((Rows.OpenSpec.upto Rows.stripKeepsSpec).pre6 enc Try.prog Try.f10 Rows.stripKeepsUptoRow.domain false) (((Rows.OpenSpec.upto Rows.stripKeepsSpec).at F).post enc Try.prog Try.f10 false true false false) := by
  refine returnsInHanded_of_cond (C := Try.checked) (s := Rows.OpenSpec.upto Rows.stripKeepsSpec) (k := Rows.uptoSmall) rfl own started (by kernel_rfl) Try.func10
    (OpenSpec.witness (enc := enc) (C := Try.checked) (s := Rows.OpenSpec.upto Rows.stripKeepsSpec) (k := Rows.uptoSmall) rfl false ⟨#[], #[.slice none 0 0, .slice none 0 0, .int .u64 0], []⟩ 8 (by kernel_rfl) (by kernel_rfl) (by kernel_rfl)
      (x := ([.nil, .nil, .lit (.int .u64 0)], [], [])) (by kernel_rfl) rfl (by kernel_rfl)) ?_
  intro W base args ds gs before hval0 hW hcnd hk _
  show Calls Try.prog 10 args W fun e W' => ∃ v, e = .returned v ∧ Rows.stripKeepsSpec.post enc Try.prog Try.f10 false true false false W args v W'
  have hval : ∀ (j : Nat) t v, Try.f10.params[j]? = some t → args[j]? = some v → Value.okWide Try.prog W .any base t v := hval0
  have hW' := hW
  obtain ⟨p, q, hA0, hV, rfl, hfz, hnd⟩ := hW
  have hA : DataW.TrodAll enc Try.prog W 0 (fun _ => true) true Try.f10.params.toList args.toList ds p := hA0
  rw [Try.params10] at hA hval
  obtain ⟨v0, vs0, d0, ds0, p0, q0, hargs, rfl, rfl, h0, r0⟩ := trodAll_cons hA
  obtain ⟨v1, vs1, d1, ds1, p1, q1, rfl, rfl, rfl, h1, r1⟩ := trodAll_cons r0
  obtain ⟨v2, vs2, d2, ds2, p2, q2, rfl, rfl, rfl, h2, r2⟩ := trodAll_cons r1
  obtain ⟨rfl, rfl, rfl⟩ := trodAll_nil r2
  obtain rfl : args = #[v0, v1, v2] := by cases args; simp_all
  obtain ⟨rfl, rfl⟩ := trodVars_none hV
  have lt0 : ∀ x ∈ p0, x.block < W.heap.size := by obtain ⟨m, hm⟩ := h0; exact DataW.trod_lt m _ _ _ hm
  have lt1 : ∀ x ∈ p1, x.block < W.heap.size := by obtain ⟨m, hm⟩ := h1; exact DataW.trod_lt m _ _ _ hm
  have lt2 : ∀ x ∈ p2, x.block < W.heap.size := by obtain ⟨m, hm⟩ := h2; exact DataW.trod_lt m _ _ _ hm
  obtain ⟨a0, len0, cap0, rfl⟩ := okWide_slice Try.underlying22 (hval 0 22 v0 rfl rfl)
  obtain ⟨z0, w0, dr0⟩ := val_row2 Try.underlying22 Try.underlying5 (by kernel_rfl) h0
  have s0 : cap0 ≤ 1048576 := upto_cap dr0 hk (by simp)
  obtain ⟨a1, len1, cap1, rfl⟩ := okWide_slice Try.underlying22 (hval 1 22 v1 rfl rfl)
  obtain ⟨z1, w1, dr1⟩ := val_row2 Try.underlying22 Try.underlying5 (by kernel_rfl) h1
  have s1 : cap1 ≤ 1048576 := upto_cap dr1 hk (by simp)
  obtain ⟨a2, rfl, w2⟩ := val_u64 Try.underlying23 (hval 2 23 v2 rfl rfl) h2
  clear hA0 hval0
  refine (walk a0 len0 cap0 z0 a1 len1 cap1 z1 a2 W w0 s0 w1 s1 w2).mono fun e W' ⟨he, bel⟩ => ?_
  subst he
  exact ⟨_, rfl, _, _, _, [], _, [], hW', trodAll_mk1 (shut_bool Try.underlying4 _), (trodAll_cons_mk (Below.trod laidOut (by kernel_rfl) (of_decide_eq_true (by kernel_rfl)) h0 bel lt0) (trodAll_cons_mk (Below.trod laidOut (by kernel_rfl) (of_decide_eq_true (by kernel_rfl)) h1 bel lt1) (trodAll_cons_mk (Below.trod laidOut (by kernel_rfl) (of_decide_eq_true (by kernel_rfl)) h2 bel lt2) trodAll_mk0))), rfl, bel.frame _, fun h => by cases h⟩

theorem over : Rows.stripKeepsUptoRow.holds Try.pinned (Rows.OpenSpec.upto Rows.stripKeepsSpec) :=
  OpenClaim.holds_of_cond 10 Try.f10 rfl rfl rfl rfl rfl rfl rfl ⟨rfl, rfl, rfl, rfl, rfl⟩ rfl rfl rfl rfl rfl (by kernel_rfl) Try.func10 (by kernel_rfl)
    (of_decide_eq_true (by kernel_rfl)) (by unfold Func.isWrapper; first | (rw [if_pos (by decide +kernel)]; kernel_rfl) | (rw [if_neg (by decide +kernel)]; exact ⟨rfl, rfl⟩))
    (fun os started H enc _ F => lifted os started H enc F)

theorem proved : Rows.StripKeepsUptoSaid := over
#print axioms proved
end Go.Proofs.Ytmdhcigkhapolab.stripKeeps
