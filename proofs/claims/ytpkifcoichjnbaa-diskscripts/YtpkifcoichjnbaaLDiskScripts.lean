/- DiskScripts: for every number of blocks and all calls the law answers true, and they read as they did. No further conditions. -/
import Derived.Test.YtpkifcoichjnbaaMK
import Derived.Test.YtpkifcoichjnbaaSE
import Derived.Test.YtpkifcoichjnbaaOpen
import Derived.Test.YtpkifcoichjnbaaOpenS
namespace Go.Proofs.Ytpkifcoichjnbaa.diskScripts
open Go.ChangeShapes Go.WideShapes Go.ChangeAt Go.RowKit Go.Deep Go.Maps
set_option linter.unusedVariables false
set_option linter.unusedSimpArgs false
def Clip (b : Bool) (n0 : Int) (N : Nat) : Prop := (b = false ∧ n0 = (N : Int)) ∨ (b = true ∧ N = 2000)
set_option maxRecDepth 100000 in
set_option maxHeartbeats 16000000 in
theorem good (N : Nat) (n0 : Int) (sa : Option Addr) (sn sc : Nat) (os : List Opp) (w : World) (hs : HoldsO w sa sn sc os) (hs2 : ∀ q ∈ os, I64 q.n) (hs3 : ∀ q ∈ os, q.sc * 1 ≤ 140737488351232)
    (h1 : 1 ≤ N) (h2 : N ≤ 2000) (hn : n0 = (N : Int) ∨ (2000 < n0 ∧ n0 ≤ 65536 ∧ N = 2000)) :
    Calls Try.prog 3 #[.int .i64 n0, .slice sa sn sc] w fun e w' => e = .returned (.bool true) ∧ Below w.heap.size w w' := by
  have SN := hid hs.1.1
  have RS := hid (fun hp => hs.1.rangeAt hp)
  have BS := hid hs.2
  have NS := hid hs2
  have CS := hid hs3
  clear hs hs2 hs3
  have AW := hid (awake14_any w)
  go_enter Try.func3, Try.ntmps3
  go_wp2_with fail
  with_reducible refine AW.out.mono ?_
  rintro e W0 ⟨rfl, b1⟩
  have B := hid b1
  clear AW b1
  go_upto_region 3 with fail
  go_cut [26] from 21 to 26 (fun v wx => ∃ b : Bool, v = .bool b ∧ Clip b n0 N ∧ wx = W0)
  case first =>
    rcases hn with rfl | ⟨g1, g2, rfl⟩
    · have t1 : ¬ 2000 < (N : Int) := by omega
      clear h2
      go_wp2_with fail
      go_meet
      exact ⟨false, rfl, .inl ⟨rfl, rfl⟩, rfl⟩
    · go_wp2_with fail
      go_meet
      exact ⟨true, rfl, .inr ⟨rfl, rfl⟩, rfl⟩
  case rest =>
  obtain ⟨b, rfl, hb, rfl⟩ := hcut
  have HB := hid hb
  clear hn hb
  go_upto_if 26 with fail
  go_cut [0] (fun v wx => v = .int .i64 (N : Int) ∧ wx = wc)
  case first =>
    rcases HB.out with ⟨rfl, rfl⟩ | ⟨rfl, rfl⟩
    · clear HB h2
      go_wp2_with fail
      go_meet
      exact ⟨rfl, rfl⟩
    · clear HB
      go_wp2_with fail
      go_meet
      exact ⟨rfl, rfl⟩
  case rest =>
  obtain ⟨rfl, rfl⟩ := hcut
  clear HB
  have C := hid (new_any N wc (by omega) (by omega))
  go_upto_region 6 with (with_reducible refine C.out.mono ?_)
  rintro e W1 ⟨D, rfl, ⟨F, da, fa⟩, b1⟩
  go_upto_region 6 with fail
  have DA := hid da
  have FA := hid (fun q hq => by have := fa q hq; have := B.out.size; omega : ∀ q, F q → w.heap.size ≤ q)
  replace B := hid (B.out.trans (b1.mono B.out.size))
  clear C da fa b1
  have C := hid (rnew_any N W1 (by omega) (by omega))
  go_wp2_with fail
  with_reducible refine C.out.mono ?_
  rintro e W2 ⟨na, nc, sb, sd, rfl, p1, p2, n1, n2, b2⟩
  have T0 := hid (Sa.begin DA.out FA.out B.out b2 p1 p2 n1 n2)
  have R0 := hid (Rel.begin N)
  clear C p1 p2 n1 n2 b2 DA FA B
  go_upto_region 7 with (first | refine wpList_store_row rfl 31 (.tmp 7) (.tmp 35) rfl W2.heap.size #[.slice na N nc, .slice sb N sd, .slice none 0 0] rfl rfl 31 _ (heap_alloc_new W2 _) sizeRdk rfl (by simp [Value.oneCell']) ?_)
  rw [alloc_row]
  have b1 := (Below.refl W2.heap.size W2).alloc (Nat.le_refl _) (.cells #[.slice na N nc, .slice sb N sd, .slice none 0 0] 31)
  have X0 := hid (Blk.alloc W2 #[.slice na N nc, .slice sb N sd, .slice none 0 0] (31))
  have TA := hid (T0.out.fresh (E' := fun q => q = W2.heap.size) b1 (fun q hq => .inr ⟨by omega, by subst hq; exact X0.out.lt⟩))
  have RB : Hid (w.heap.size ≤ W2.heap.size) := T0.out.bel.size
  clear b1 T0
  generalize W2.alloc (.cells #[.slice na N nc, .slice sb N sd, .slice none 0 0] 31) = W3 at *
  generalize W2.heap.size = QR at *
  by_cases c1 : 200 < sn
  · have t1 : 200 < (sn : Int) := by omega
    clear c1
    go_wp2_with fail
    go_ret
    exact ⟨rfl, TA.out.bel⟩
  have t1 : ¬ 200 < (sn : Int) := by omega
  go_wp2_with fail
  go_loopw [66] (fun i wr => ∃ j : Nat, j ≤ sn ∧ i = .int .i64 (j : Int) ∧ ∃ bs ls na nc sb sd la lc now safe lo, Hid (Sa w wr (fun q => q = QR) D N bs ls na nc sb sd la lc now safe lo) ∧ Hid (Blk wr QR 31 #[.slice na N nc, .slice sb N sd, .slice la (List.length lo) lc]) ∧ Hid (Rel N bs ls now safe lo) ∧ ls.length ≤ j) (fun i _ => sn - (intOf i).toNat)
  case atStart => exact ⟨0, by omega, rfl, _, _, na, nc, sb, sd, none, 0, _, _, [], TA, X0, R0, by simp⟩
  case round =>
    clear TA X0 R0
    obtain ⟨j, hj, rfl, bs, ls, na, nc, sb, sd, la, lc, now, safe, lo, TW, RX, RL, hls⟩ := hrel
    by_cases hlt : j < sn
    · have hlt' : j < os.length := by rw [SN.out]; exact hlt
      obtain ⟨b, off, rfl, hbl, RI⟩ := RS.out (by omega)
      have RG := rangeAt_below (RI j os[j] (List.getElem?_eq_getElem hlt')) TW.out.bel
      have HX := hid (BS.out _ (List.getElem_mem hlt'))
      have HI := NS.out _ (List.getElem_mem hlt')
      have HC := CS.out _ (List.getElem_mem hlt')
      have ka : (0 : Int) ≤ (j : Int) := by omega
      have kb : (j : Int) < (sn : Int) := by omega
      clear RI
      generalize os[j] = x at *
      obtain ⟨xk, xn, xa, xl, xc, xp⟩ := x
      have HO1 := hid (all_oneCell_toArray (Opp.one ⟨xk, xn, xa, xl, xc, xp⟩))
      go_upto_region 15 with (first | refine wpList_load_mid rfl 36 (.tmp 68) rfl _ _ rfl [.int .i64 xk, .int .i64 xn, .slice xa xl xc] _ RG Try.underlying36 rfl sizeOpp ?_ | refine wpList_store_row rfl 36 (.tmp 10) (.tmp 69) rfl wr.heap.size #[.int .i64 xk, .int .i64 xn, .slice xa xl xc] rfl rfl 36 _ (heap_alloc_new wr _) sizeOpp rfl HO1.out ?_)
      rw [alloc_row]
      have b1 := (Below.refl wr.heap.size wr).alloc (Nat.le_refl _) (.cells #[.int .i64 xk, .int .i64 xn, .slice xa xl xc] 36)
      have X := hid (Blk.alloc wr #[.int .i64 xk, .int .i64 xn, .slice xa xl xc] (36))
      have QN : Hid (QR ≠ wr.heap.size) := by unfold Hid; have := RX.out.lt; omega
      replace RX := hid (RX.out.below b1)
      replace TW := hid (TW.out.fresh (E' := fun q => q = QR ∨ q = wr.heap.size) b1 (fun q hq => hq.elim .inl (fun hq => .inr ⟨by omega, by subst hq; exact X.out.lt⟩)))
      clear b1 RG HO1
      generalize wr.alloc (.cells #[.int .i64 xk, .int .i64 xn, .slice xa xl xc] 36) = w2 at *
      generalize wr.heap.size = Q at *

      replace HC : xc * 1 ≤ 140737488351232 := HC
      have HL0 : xl ≤ xc := HX.out.2.2.1
      have HL1 : xl + 1 ≤ 140737488355328 := by omega
      have dX := hid (show Blk w2.drew Q 36 #[.int .i64 xk, .int .i64 xn, .slice xa xl xc] from X.out)
      have dR := hid (show Blk w2.drew QR 31 #[.slice na N nc, .slice sb N sd, .slice la lo.length lc] from RX.out)
      have dT := hid (TW.out.below ((Below.refl _ _).drew))
      go_cut [13] from 70 to 79 (fun v wx => ∃ g vC, v = .slice (some ⟨g, 0, none⟩) xl vC ∧ Hid (PRow wx g xl vC) ∧ Hid (HoldsB wx (some ⟨g, 0, none⟩) xl vC xp) ∧ Hid (Sa w wx (fun q => q = QR ∨ q = Q ∨ q = g) D N bs ls na nc sb sd la lc now safe lo) ∧ Hid (Blk wx Q 36 #[.int .i64 xk, .int .i64 xn, .slice xa xl xc]) ∧ Hid (Blk wx QR 31 #[.slice na N nc, .slice sb N sd, .slice la lo.length lc]) ∧ Hid (g ≠ Q ∧ g ≠ QR))
      case first =>
        clear X RX TW
        have dS : w2.drew.cell? ⟨Q, 2, none⟩ = some (.slice xa xl xc) := dX.out.cellAt 2 _ rfl
        refine wp_region_held_drew (S := fun W => W.cell? ⟨Q, 2, none⟩ = some (.slice xa xl xc)) (by kernel_rfl) dS (fun hHeld => ?_)
        generalize w2.drew = wa at *
        refine wpAnyH_take (i := 1) (v := .pointer (some ⟨Q, 2, none⟩)) rfl (by kernel_rfl) (by kernel_rfl) (by kernel_rfl) (fun _ _ _ h => h) (Or.inl ⟨by rfl, ?_⟩) (by assumption) ?_
        · (intro w0 hSw; (try dsimp only at hSw); go_simp)
        (try simp only [Act.put, List.getElem_toArray, List.getElem_cons_succ, List.getElem_cons_zero, List.setIfInBounds_toArray, List.set_cons_zero, List.set_cons_succ])
        refine wpAnyH_take (i := 2) (v := .slice xa xl xc) rfl (by kernel_rfl) (by kernel_rfl) (by kernel_rfl) (fun _ _ _ h => h) (Or.inl ⟨by rfl, ?_⟩) (by assumption) ?_
        · (intro w0 hSw; (try dsimp only at hSw); go_simp)
        (try simp only [Act.put, List.getElem_toArray, List.getElem_cons_succ, List.getElem_cons_zero, List.setIfInBounds_toArray, List.set_cons_zero, List.set_cons_succ])
        refine wpAnyH_take (i := 6) (v := .pointer (some ⟨Q, 2, none⟩)) rfl (by kernel_rfl) (by kernel_rfl) (by kernel_rfl) (fun _ _ _ h => h) (Or.inl ⟨by rfl, ?_⟩) (by assumption) ?_
        · (intro w0 hSw; (try dsimp only at hSw); go_simp)
        (try simp only [Act.put, List.getElem_toArray, List.getElem_cons_succ, List.getElem_cons_zero, List.setIfInBounds_toArray, List.set_cons_zero, List.set_cons_succ])
        refine wpAnyH_take (i := 7) (v := .slice xa xl xc) rfl (by kernel_rfl) (by kernel_rfl) (by kernel_rfl) (fun _ _ _ h => h) (Or.inl ⟨by rfl, ?_⟩) (by assumption) ?_
        · (intro w0 hSw; (try dsimp only at hSw); go_simp)
        (try simp only [Act.put, List.getElem_toArray, List.getElem_cons_succ, List.getElem_cons_zero, List.setIfInBounds_toArray, List.set_cons_zero, List.set_cons_succ])
        refine wpAnyH_take (i := 8) (v := .int .i64 (xl : Int)) rfl (by kernel_rfl) (by kernel_rfl) (by kernel_rfl) (fun _ _ _ h => h) (Or.inl ⟨by rfl, ?_⟩) (by assumption) ?_
        · (intro w0 hSw; (try dsimp only at hSw); go_simp)
        (try simp only [Act.put, List.getElem_toArray, List.getElem_cons_succ, List.getElem_cons_zero, List.setIfInBounds_toArray, List.set_cons_zero, List.set_cons_succ])
        obtain ⟨P0, hP0⟩ : ∃ P0, P0 = wa.heap.size := ⟨_, rfl⟩
        have CT : Hid (∀ W, Below P0 wa W → ∀ g, P0 ≤ g → g < W.heap.size → Sa w W (fun q => q = QR ∨ q = Q ∨ q = g) D N bs ls na nc sb sd la lc now safe lo) := fun W h g h1 h2 => by subst hP0; exact dT.out.fresh h (fun q hq => by rcases hq with hq | hq | hq; exact .inl (.inl hq); exact .inl (.inr hq); exact .inr ⟨by omega, by omega⟩)
        have CX : Hid (∀ W, Below P0 wa W → Blk W Q 36 #[.int .i64 xk, .int .i64 xn, .slice xa xl xc]) := fun W h => by subst hP0; exact dX.out.below h
        have CR : Hid (∀ W, Below P0 wa W → Blk W QR 31 #[.slice na N nc, .slice sb N sd, .slice la lo.length lc]) := fun W h => by subst hP0; exact dR.out.below h
        have CG : Hid (∀ g, P0 ≤ g → g ≠ Q ∧ g ≠ QR) := fun g h => by have h1 := dX.out.lt; have h2 := dR.out.lt; subst hP0; exact ⟨by omega, by omega⟩
        have CS2 : Hid (∀ W, Below P0 wa W → W.cell? ⟨Q, 2, none⟩ = some (.slice xa xl xc)) := fun W h => (CX.out W h).cellAt 2 _ rfl
        have CP : Hid (∀ W, Below P0 wa W → HoldsB W xa xl xc xp) := fun W h => by subst hP0; exact HX.out.below (dT.out.bel.trans (h.mono dT.out.bel.size))
        have CZ : Hid (∀ W, Below P0 wa W → P0 ≤ W.heap.size) := fun W h => by subst hP0; exact h.size
        have B0 : Hid (Below P0 wa wa) := Below.refl _ _
        clear dX dR dT hP0 dS
        refine wpAnyH_ready (rs := [0, 4]) (by kernel_rfl) (by simp) ?_
        refine AllReadyH.cons rfl (fun K hK => ?_) ?_
        · skip
          go_simp
          have Bg1 := hid (B0.out.alloc (CZ.out _ B0.out) (.cells #[] 5))
          have Og1 : Hid (Own P0 (wa.alloc (.cells #[] 5)) (.slice (some ⟨wa.heap.size, 0, none⟩) 0 0) 0 []) := (own_litU wa).base (CZ.out _ B0.out)
          generalize (wa.alloc (.cells #[] 5)) = wg1 at *
          generalize wa.heap.size = Ag1 at *
          refine hK.out _ _ (CS2.out _ Bg1.out) (fun hHeld => ?_)
          clear hK K
          (try simp only [Act.put, List.getElem_toArray, List.getElem_cons_succ, List.getElem_cons_zero, List.setIfInBounds_toArray, List.set_cons_zero, List.set_cons_succ])
          refine wpAnyH_ready (rs := [3, 4]) (by kernel_rfl) (by simp) ?_
          refine AllReadyH.cons rfl (fun K hK => ?_) ?_
          · skip
            refine appB_step wg1 rfl (.tmp 70) (.tmp 72) rfl P0 0 (.slice (some ⟨Ag1, 0, none⟩) 0 0) [] rfl Og1.out (CZ.out _ Bg1.out) xa xl xc xp rfl (CP.out _ Bg1.out) (by omega) ?_
            intro vg2 wg2 h1 h2 h3
            have Bg2 := hid (Bg1.out.trans ((Below.refl P0 wg1).grown h2 (CZ.out _ Bg1.out) (fun k hk => (Og1.out.1.lt k hk).1)))
            have Og2 : Hid (Own P0 wg2 vg2 xl xp) := by have := h1; rw [Nat.zero_add, List.nil_append] at this; exact this
            clear h1 h2 h3
            refine hK.out _ _ (CS2.out _ Bg2.out) (fun hHeld => ?_)
            clear hK K
            (try simp only [Act.put, List.getElem_toArray, List.getElem_cons_succ, List.getElem_cons_zero, List.setIfInBounds_toArray, List.set_cons_zero, List.set_cons_succ])
            refine wpAnyH_ready (rs := [4]) (by kernel_rfl) (by simp) ?_
            refine AllReadyH.cons rfl (fun K hK => ?_) AllReadyH.nil
            go_simp
            have Bg3 := hid (Bg2.out.alloc (CZ.out _ Bg2.out) (.cells #[.int .u8 71] 5))
            have Lg3 := hid (lit1 wg2 71 (by omega) (by omega))
            have Og3 := hid (Og2.out.below' ((Below.refl wg2.heap.size wg2).alloc (Nat.le_refl _) (.cells #[.int .u8 71] 5)))
            generalize (wg2.alloc (.cells #[.int .u8 71] 5)) = wg3 at *
            generalize wg2.heap.size = Ag3 at *
            refine hK.out _ _ (CS2.out _ Bg3.out) (fun hHeld => ?_)
            clear hK K
            (try simp only [Act.put, List.getElem_toArray, List.getElem_cons_succ, List.getElem_cons_zero, List.setIfInBounds_toArray, List.set_cons_zero, List.set_cons_succ])
            refine wpAnyH_ready (rs := [5]) (by kernel_rfl) (by simp) ?_
            refine AllReadyH.cons rfl (fun K hK => ?_) AllReadyH.nil
            refine appB_step wg3 rfl (.tmp 73) (.tmp 74) rfl P0 xl vg2 xp rfl Og3.out (CZ.out _ Bg3.out) (some ⟨Ag3, 0, none⟩) 1 1 [71] rfl Lg3.out (by omega) ?_
            intro vg4 wg4 h1 h2 h3
            have Bg4 := hid (Bg3.out.trans ((Below.refl P0 wg3).grown h2 (CZ.out _ Bg3.out) (fun k hk => (Og3.out.1.lt k hk).1)))
            have Og4 := hid h1
            clear h1 h2 h3
            obtain ⟨vA, vC, rfl⟩ := Og4.out.form
            obtain ⟨g, rfl, hg, hgl, pr, hb⟩ := Og4.out.prow HX.out.1 HX.out.2.2.2.2.1
            have cc := pr.cap
            refine hK.out _ _ (CS2.out _ Bg4.out) (fun hHeld => ?_)
            clear hK K
            (try simp only [Act.put, List.getElem_toArray, List.getElem_cons_succ, List.getElem_cons_zero, List.setIfInBounds_toArray, List.set_cons_zero, List.set_cons_succ])
            have q1 : (0 : Int) ≤ (xl : Int) := by omega
            have q2 : (xl : Int) ≤ (vC : Int) := by omega
            refine wpAnyH_take (i := 9) (v := .slice (some ⟨g, 0, none⟩) xl vC) rfl (by kernel_rfl) (by kernel_rfl) (by kernel_rfl) (fun _ _ _ h => h) (Or.inl ⟨by rfl, ?_⟩) (by assumption) ?_
            · (intro w0 hSw; (try dsimp only at hSw); go_simp)
            (try simp only [Act.put, List.getElem_toArray, List.getElem_cons_succ, List.getElem_cons_zero, List.setIfInBounds_toArray, List.set_cons_zero, List.set_cons_succ])
            refine wpAnyH_take (i := 10) (v := .slice (some ⟨g, 0, none⟩) xl vC) rfl (by kernel_rfl) (by kernel_rfl) (by kernel_rfl) (fun _ _ _ h => h) (Or.inl ⟨by rfl, ?_⟩) (by assumption) ?_
            · (intro w0 hSw; (try dsimp only at hSw); go_simp)
            (try simp only [Act.put, List.getElem_toArray, List.getElem_cons_succ, List.getElem_cons_zero, List.setIfInBounds_toArray, List.set_cons_zero, List.set_cons_succ])
            refine wpAnyH_done (by kernel_rfl) ?_ _
            clear hHeld q1 q2 cc
            have r1 := hid (CT.out _ Bg4.out g hg hgl)
            have r2 := hid (CX.out _ Bg4.out)
            have r3 := hid (CR.out _ Bg4.out)
            have r4 := hid (CG.out g hg)
            have r5 := hid pr
            have r6 := hid hb
            clear pr hb
            go_wp2_with fail
            go_meet
            exact ⟨g, vC, rfl, r5, r6, r1, r2, r3, r4⟩
          refine AllReadyH.cons rfl (fun K hK => ?_) AllReadyH.nil
          go_simp
          have Bg5 := hid (Bg1.out.alloc (CZ.out _ Bg1.out) (.cells #[.int .u8 71] 5))
          have Lg5 := hid (lit1 wg1 71 (by omega) (by omega))
          have Og5 := hid (Og1.out.below' ((Below.refl wg1.heap.size wg1).alloc (Nat.le_refl _) (.cells #[.int .u8 71] 5)))
          have NE : Hid (Ag1 ≠ wg1.heap.size) := by unfold Hid; have := (Og1.out.1.lt Ag1 rfl).2; omega
          generalize (wg1.alloc (.cells #[.int .u8 71] 5)) = wg5 at *
          generalize wg1.heap.size = Ag5 at *
          refine hK.out _ _ (CS2.out _ Bg5.out) (fun hHeld => ?_)
          clear hK K
          (try simp only [Act.put, List.getElem_toArray, List.getElem_cons_succ, List.getElem_cons_zero, List.setIfInBounds_toArray, List.set_cons_zero, List.set_cons_succ])
          refine wpAnyH_ready (rs := [3]) (by kernel_rfl) (by simp) ?_
          refine AllReadyH.cons rfl (fun K hK => ?_) AllReadyH.nil
          refine appB_step wg5 rfl (.tmp 70) (.tmp 72) rfl P0 0 (.slice (some ⟨Ag1, 0, none⟩) 0 0) [] rfl Og5.out (CZ.out _ Bg5.out) xa xl xc xp rfl (CP.out _ Bg5.out) (by omega) ?_
          intro vg6 wg6 h1 h2 h3
          have Bg6 := hid (Bg5.out.trans ((Below.refl P0 wg5).grown h2 (CZ.out _ Bg5.out) (fun k hk => (Og5.out.1.lt k hk).1)))
          have Og6 : Hid (Own P0 wg6 vg6 xl xp) := by have := h1; rw [Nat.zero_add, List.nil_append] at this; exact this
          have Lg6 := hid (holdsB_onl Lg5.out ((Onl.refl (fun q => Value.ownBlock (.slice (some ⟨Ag1, 0, none⟩) 0 0) = some q) wg5).grown h2 (fun r hr => .inl hr)) (fun b o e _ hb => by cases e; exact NE.out (Option.some.inj hb)))
          clear h1 h2 h3
          refine hK.out _ _ (CS2.out _ Bg6.out) (fun hHeld => ?_)
          clear hK K
          (try simp only [Act.put, List.getElem_toArray, List.getElem_cons_succ, List.getElem_cons_zero, List.setIfInBounds_toArray, List.set_cons_zero, List.set_cons_succ])
          refine wpAnyH_ready (rs := [5]) (by kernel_rfl) (by simp) ?_
          refine AllReadyH.cons rfl (fun K hK => ?_) AllReadyH.nil
          refine appB_step wg6 rfl (.tmp 73) (.tmp 74) rfl P0 xl vg6 xp rfl Og6.out (CZ.out _ Bg6.out) (some ⟨Ag5, 0, none⟩) 1 1 [71] rfl Lg6.out (by omega) ?_
          intro vg7 wg7 h1 h2 h3
          have Bg7 := hid (Bg6.out.trans ((Below.refl P0 wg6).grown h2 (CZ.out _ Bg6.out) (fun k hk => (Og6.out.1.lt k hk).1)))
          have Og7 := hid h1
          clear h1 h2 h3
          obtain ⟨vA, vC, rfl⟩ := Og7.out.form
          obtain ⟨g, rfl, hg, hgl, pr, hb⟩ := Og7.out.prow HX.out.1 HX.out.2.2.2.2.1
          have cc := pr.cap
          refine hK.out _ _ (CS2.out _ Bg7.out) (fun hHeld => ?_)
          clear hK K
          (try simp only [Act.put, List.getElem_toArray, List.getElem_cons_succ, List.getElem_cons_zero, List.setIfInBounds_toArray, List.set_cons_zero, List.set_cons_succ])
          have q1 : (0 : Int) ≤ (xl : Int) := by omega
          have q2 : (xl : Int) ≤ (vC : Int) := by omega
          refine wpAnyH_take (i := 9) (v := .slice (some ⟨g, 0, none⟩) xl vC) rfl (by kernel_rfl) (by kernel_rfl) (by kernel_rfl) (fun _ _ _ h => h) (Or.inl ⟨by rfl, ?_⟩) (by assumption) ?_
          · (intro w0 hSw; (try dsimp only at hSw); go_simp)
          (try simp only [Act.put, List.getElem_toArray, List.getElem_cons_succ, List.getElem_cons_zero, List.setIfInBounds_toArray, List.set_cons_zero, List.set_cons_succ])
          refine wpAnyH_take (i := 10) (v := .slice (some ⟨g, 0, none⟩) xl vC) rfl (by kernel_rfl) (by kernel_rfl) (by kernel_rfl) (fun _ _ _ h => h) (Or.inl ⟨by rfl, ?_⟩) (by assumption) ?_
          · (intro w0 hSw; (try dsimp only at hSw); go_simp)
          (try simp only [Act.put, List.getElem_toArray, List.getElem_cons_succ, List.getElem_cons_zero, List.setIfInBounds_toArray, List.set_cons_zero, List.set_cons_succ])
          refine wpAnyH_done (by kernel_rfl) ?_ _
          clear hHeld q1 q2 cc
          have r1 := hid (CT.out _ Bg7.out g hg hgl)
          have r2 := hid (CX.out _ Bg7.out)
          have r3 := hid (CR.out _ Bg7.out)
          have r4 := hid (CG.out g hg)
          have r5 := hid pr
          have r6 := hid hb
          clear pr hb
          go_wp2_with fail
          go_meet
          exact ⟨g, vC, rfl, r5, r6, r1, r2, r3, r4⟩
        refine AllReadyH.cons rfl (fun K hK => ?_) AllReadyH.nil
        go_simp
        have Bg8 := hid (B0.out.alloc (CZ.out _ B0.out) (.cells #[.int .u8 71] 5))
        have Lg8 := hid (lit1 wa 71 (by omega) (by omega))
        generalize (wa.alloc (.cells #[.int .u8 71] 5)) = wg8 at *
        generalize wa.heap.size = Ag8 at *
        refine hK.out _ _ (CS2.out _ Bg8.out) (fun hHeld => ?_)
        clear hK K
        (try simp only [Act.put, List.getElem_toArray, List.getElem_cons_succ, List.getElem_cons_zero, List.setIfInBounds_toArray, List.set_cons_zero, List.set_cons_succ])
        refine wpAnyH_ready (rs := [0]) (by kernel_rfl) (by simp) ?_
        refine AllReadyH.cons rfl (fun K hK => ?_) AllReadyH.nil
        go_simp
        have Bg9 := hid (Bg8.out.alloc (CZ.out _ Bg8.out) (.cells #[] 5))
        have Og9 : Hid (Own P0 (wg8.alloc (.cells #[] 5)) (.slice (some ⟨wg8.heap.size, 0, none⟩) 0 0) 0 []) := (own_litU wg8).base (CZ.out _ Bg8.out)
        have NE : Hid (wg8.heap.size ≠ Ag8) := by unfold Hid; have := holdsB_lt Lg8.out rfl (by omega); omega
        have Lg9 := hid (Lg8.out.below ((Below.refl wg8.heap.size wg8).alloc (Nat.le_refl _) (.cells #[] 5)))
        generalize (wg8.alloc (.cells #[] 5)) = wg9 at *
        generalize wg8.heap.size = Ag9 at *
        refine hK.out _ _ (CS2.out _ Bg9.out) (fun hHeld => ?_)
        clear hK K
        (try simp only [Act.put, List.getElem_toArray, List.getElem_cons_succ, List.getElem_cons_zero, List.setIfInBounds_toArray, List.set_cons_zero, List.set_cons_succ])
        refine wpAnyH_ready (rs := [3]) (by kernel_rfl) (by simp) ?_
        refine AllReadyH.cons rfl (fun K hK => ?_) AllReadyH.nil
        refine appB_step wg9 rfl (.tmp 70) (.tmp 72) rfl P0 0 (.slice (some ⟨Ag9, 0, none⟩) 0 0) [] rfl Og9.out (CZ.out _ Bg9.out) xa xl xc xp rfl (CP.out _ Bg9.out) (by omega) ?_
        intro vg10 wg10 h1 h2 h3
        have Bg10 := hid (Bg9.out.trans ((Below.refl P0 wg9).grown h2 (CZ.out _ Bg9.out) (fun k hk => (Og9.out.1.lt k hk).1)))
        have Og10 : Hid (Own P0 wg10 vg10 xl xp) := by have := h1; rw [Nat.zero_add, List.nil_append] at this; exact this
        have Lg10 := hid (holdsB_onl Lg9.out ((Onl.refl (fun q => Value.ownBlock (.slice (some ⟨Ag9, 0, none⟩) 0 0) = some q) wg9).grown h2 (fun r hr => .inl hr)) (fun b o e _ hb => by cases e; exact NE.out (Option.some.inj hb)))
        clear h1 h2 h3
        refine hK.out _ _ (CS2.out _ Bg10.out) (fun hHeld => ?_)
        clear hK K
        (try simp only [Act.put, List.getElem_toArray, List.getElem_cons_succ, List.getElem_cons_zero, List.setIfInBounds_toArray, List.set_cons_zero, List.set_cons_succ])
        refine wpAnyH_ready (rs := [5]) (by kernel_rfl) (by simp) ?_
        refine AllReadyH.cons rfl (fun K hK => ?_) AllReadyH.nil
        refine appB_step wg10 rfl (.tmp 73) (.tmp 74) rfl P0 xl vg10 xp rfl Og10.out (CZ.out _ Bg10.out) (some ⟨Ag8, 0, none⟩) 1 1 [71] rfl Lg10.out (by omega) ?_
        intro vg11 wg11 h1 h2 h3
        have Bg11 := hid (Bg10.out.trans ((Below.refl P0 wg10).grown h2 (CZ.out _ Bg10.out) (fun k hk => (Og10.out.1.lt k hk).1)))
        have Og11 := hid h1
        clear h1 h2 h3
        obtain ⟨vA, vC, rfl⟩ := Og11.out.form
        obtain ⟨g, rfl, hg, hgl, pr, hb⟩ := Og11.out.prow HX.out.1 HX.out.2.2.2.2.1
        have cc := pr.cap
        refine hK.out _ _ (CS2.out _ Bg11.out) (fun hHeld => ?_)
        clear hK K
        (try simp only [Act.put, List.getElem_toArray, List.getElem_cons_succ, List.getElem_cons_zero, List.setIfInBounds_toArray, List.set_cons_zero, List.set_cons_succ])
        have q1 : (0 : Int) ≤ (xl : Int) := by omega
        have q2 : (xl : Int) ≤ (vC : Int) := by omega
        refine wpAnyH_take (i := 9) (v := .slice (some ⟨g, 0, none⟩) xl vC) rfl (by kernel_rfl) (by kernel_rfl) (by kernel_rfl) (fun _ _ _ h => h) (Or.inl ⟨by rfl, ?_⟩) (by assumption) ?_
        · (intro w0 hSw; (try dsimp only at hSw); go_simp)
        (try simp only [Act.put, List.getElem_toArray, List.getElem_cons_succ, List.getElem_cons_zero, List.setIfInBounds_toArray, List.set_cons_zero, List.set_cons_succ])
        refine wpAnyH_take (i := 10) (v := .slice (some ⟨g, 0, none⟩) xl vC) rfl (by kernel_rfl) (by kernel_rfl) (by kernel_rfl) (fun _ _ _ h => h) (Or.inl ⟨by rfl, ?_⟩) (by assumption) ?_
        · (intro w0 hSw; (try dsimp only at hSw); go_simp)
        (try simp only [Act.put, List.getElem_toArray, List.getElem_cons_succ, List.getElem_cons_zero, List.setIfInBounds_toArray, List.set_cons_zero, List.set_cons_succ])
        refine wpAnyH_done (by kernel_rfl) ?_ _
        clear hHeld q1 q2 cc
        have r1 := hid (CT.out _ Bg11.out g hg hgl)
        have r2 := hid (CX.out _ Bg11.out)
        have r3 := hid (CR.out _ Bg11.out)
        have r4 := hid (CG.out g hg)
        have r5 := hid pr
        have r6 := hid hb
        clear pr hb
        go_wp2_with fail
        go_meet
        exact ⟨g, vC, rfl, r5, r6, r1, r2, r3, r4⟩
      case rest =>
      clear X RX TW dX dR dT
      obtain ⟨g, vC, rfl, PR, HP, TW, X, RX, GN⟩ := hcut
      generalize wc = w3 at *
      have HL2 := HX.out.1
      replace HL2 : xp.length = xl := HL2
      replace HI : I64 xn := HI
      have HI1 := HI.2
      clear HI HC hlt'
      have y0 := X.out.cellAt 0 _ rfl
      go_upto_block 2 with fail
      clear y0
      go_cut [11, 12] from 82 to 116 (fun u v wx => ∃ E : Int, ∃ bs ls na nc sb sd la lc now safe lo, u = .int .i64 E ∧ v = .int .i64 E ∧ Hid (PRow wx g xl vC) ∧ Hid (Sa w wx (fun q => q = QR ∨ q = Q ∨ q = g) D N bs ls na nc sb sd la lc now safe lo) ∧ Hid (Blk wx Q 36 #[.int .i64 xk, .int .i64 xn, .slice xa xl xc]) ∧ Hid (Blk wx QR 31 #[.slice na N nc, .slice sb N sd, .slice la (List.length lo) lc]) ∧ Hid (Rel N bs ls now safe lo) ∧ ls.length ≤ j + 1)
      case first =>
        have y1 := X.out.cellAt 1 _ rfl
        have y2 := X.out.cellAt 2 _ rfl
        have ln1 := RL.out.ll
        have ln2 : lo.length ≤ 100000 := by omega
        have ln3 : ls.length ≤ 1000000 := by omega
        have ln4 := RL.out.len
        replace ln1 := hid ln1
        replace ln4 := hid ln4
        have NPOS : 0 < N := by omega
        have NMAX : N ≤ 100000 := by omega
        by_cases k0 : xk = 0
        · subst k0
          have WE : ∀ E, wE bs.length xn xp.length = E → Calls Try.prog 10 #[.pointer (some ⟨D, 0, none⟩), .int .i64 xn, .slice (some ⟨g, 0, none⟩) xl vC] w3 fun e w' => e = .returned (.int .i64 E) ∧ Sa w w' (fun q => q = QR ∨ q = Q ∨ q = g) D N (wB bs xn xp) (wL bs ls xn xp) na nc sb sd la lc now safe lo ∧ (∀ q, (q = QR ∨ q = Q ∨ q = g) → w'.heap[q]? = w3.heap[q]?) ∧ w3.heap.size ≤ w'.heap.size := fun E hE => by have h := sa_write TW.out xn HP.out (fun b o e _ => by cases e; exact .inr (.inr rfl)) ln3; rw [hE] at h; exact h
          replace WE := hid WE
          have LL := wL_le bs ls xn xp
          by_cases ok : 0 ≤ xn ∧ xn < (N : Int)
          · by_cases o64 : xl ≤ 64
            · skip
              obtain ⟨k, rfl⟩ : ∃ k : Nat, xn = (k : Int) := ⟨xn.toNat, by omega⟩
              have hk : k < N := by omega
              have e0 : wE bs.length (k : Int) xp.length = 0 := wE_ok.2 ⟨by rw [ln4.out]; exact ok, by omega⟩
              have C1 := hid (WE.out 0 e0)
              have RP := hid (fun ta tc ua u' => RL.out.put (p := xp) hk HX.out.2.2.2.2.1 (by omega) ta xl tc ua xl u')
              clear WE e0 ok
              go_wp2_with fail
              with_reducible refine C1.out.mono ?_
              rintro e w4 ⟨rfl, tw, kk, sz⟩
              replace X : Hid (Blk w4 Q 36 #[.int .i64 0, .int .i64 (k : Int), .slice xa xl xc]) := (kk Q (.inr (.inl rfl))).trans X.out
              replace RX : Hid (Blk w4 QR 31 #[.slice na N nc, .slice sb N sd, .slice la lo.length lc]) := (kk QR (.inl rfl)).trans RX.out
              replace PR : Hid (PRow w4 g xl vC) := PR.out.same (kk g (.inr (.inr rfl)))
              replace TW := hid tw
              replace y1 := hid y1
              have y1 := X.out.cellAt 1 _ rfl
              have y2 := X.out.cellAt 2 _ rfl
              have C2 := hid (sa_put TW.out k (HX.out.below TW.out.bel) hk o64 NMAX ln2)
              clear C1 tw kk sz HP
              have HP := hid True.intro
              have LD := RX.out.loadAt Try.underlying31 rfl sizeRdk
              go_wp2_with (first | refine wpList_load_at 31 rfl (.tmp 7) rfl _ _ rfl _ LD ?_)
              clear LD
              with_reducible refine C2.out.mono ?_
              rintro e w5 ⟨qa, qc, ta, tc, ga, gc, ua, uc, rfl, tw, b5⟩
              replace TW := hid tw
              replace X := hid (X.out.below b5)
              replace RX := hid (RX.out.below b5)
              replace PR := hid (PR.out.below b5)
              replace RP := hid (RP.out ta tc ua uc)
              clear C2 tw b5 y1 y2
              have BY := RX.out
              unfold Blk at BY
              have r1 : Hid (PRow (w5.setRow QR #[.slice qa N qc, .slice sb N sd, .slice ga (lo.length + 1) gc]) g xl vC) := PR.out.same (setRow_other _ _ _ _ GN.out.2)
              have r2 := hid (TW.out.onl (setRow_onl (q := QR) (cs := #[.slice qa N qc, .slice sb N sd, .slice ga (lo.length + 1) gc]) (Onl.refl _ _) (.inl rfl)))
              have r3 := hid (X.out.other (ds := #[.slice qa N qc, .slice sb N sd, .slice ga (lo.length + 1) gc]) (Ne.symm QN.out))
              have r4 := hid (RX.out.row #[.slice qa N qc, .slice sb N sd, .slice ga (lo.length + 1) gc])
              clear X RX PR TW HP
              go_wp2_with (first | refine wpList_store_row rfl 31 (.tmp 7) (.tmp 96) rfl QR #[.slice qa N qc, .slice sb N sd, .slice ga (lo.length + 1) gc] rfl rfl 31 _ BY sizeRdk rfl (by simp [Value.oneCell']) ?_)
              go_meet
              exact ⟨0, _, _, qa, qc, sb, sd, ga, gc, _, safe, _, rfl, rfl, r1, r2, r3, (by rw [List.length_append]; exact r4), RP, by omega⟩
            · skip
              have e0 : wE bs.length xn xp.length = 3 := by unfold wE; rw [if_pos (by rw [ln4.out]; exact ok), if_pos (by omega)]
              have C1 := hid (WE.out 3 e0)
              obtain ⟨eb, el⟩ := w_no (bs := bs) (ls := ls) (n := xn) (l := xp) (by rw [e0]; omega)
              rw [eb, el] at C1
              have CC := hid (fun w4 => rput_long na N nc sb N sd la lo.length lc xn xa xl xc w4 ok (by omega))
              clear WE e0 eb el ok
              go_wp2_with fail
              with_reducible refine C1.out.mono ?_
              rintro e w4 ⟨rfl, tw, kk, sz⟩
              replace X : Hid (Blk w4 Q 36 #[.int .i64 0, .int .i64 xn, .slice xa xl xc]) := (kk Q (.inr (.inl rfl))).trans X.out
              replace RX : Hid (Blk w4 QR 31 #[.slice na N nc, .slice sb N sd, .slice la lo.length lc]) := (kk QR (.inl rfl)).trans RX.out
              replace PR : Hid (PRow w4 g xl vC) := PR.out.same (kk g (.inr (.inr rfl)))
              replace TW := hid tw
              replace y1 := hid y1
              have y1 := X.out.cellAt 1 _ rfl
              have y2 := X.out.cellAt 2 _ rfl
              have C2 := hid (CC.out w4)
              clear C1 tw kk sz HP CC
              have HP := hid True.intro
              have LD := RX.out.loadAt Try.underlying31 rfl sizeRdk
              go_wp2_with (first | refine wpList_load_at 31 rfl (.tmp 7) rfl _ _ rfl _ LD ?_)
              clear LD
              with_reducible refine C2.out.mono ?_
              rintro e w5 ⟨rfl, b5⟩
              replace TW := hid (TW.out.below b5)
              replace X := hid (X.out.below b5)
              replace RX := hid (RX.out.below b5)
              replace PR := hid (PR.out.below b5)
              clear C2 b5 y1 y2
              have BY := RX.out
              unfold Blk at BY
              have r1 : Hid (PRow (w5.setRow QR #[.slice na N nc, .slice sb N sd, .slice la lo.length lc]) g xl vC) := PR.out.same (setRow_other _ _ _ _ GN.out.2)
              have r2 := hid (TW.out.onl (setRow_onl (q := QR) (cs := #[.slice na N nc, .slice sb N sd, .slice la lo.length lc]) (Onl.refl _ _) (.inl rfl)))
              have r3 := hid (X.out.other (ds := #[.slice na N nc, .slice sb N sd, .slice la lo.length lc]) (Ne.symm QN.out))
              have r4 := hid (RX.out.row #[.slice na N nc, .slice sb N sd, .slice la lo.length lc])
              clear X RX PR TW HP
              go_wp2_with (first | refine wpList_store_row rfl 31 (.tmp 7) (.tmp 96) rfl QR #[.slice na N nc, .slice sb N sd, .slice la lo.length lc] rfl rfl 31 _ BY sizeRdk rfl (by simp [Value.oneCell']) ?_)
              go_meet
              exact ⟨3, _, _, na, nc, sb, sd, la, lc, _, safe, lo, rfl, rfl, r1, r2, r3, r4, RL, by omega⟩
          · skip
            have e0 : wE bs.length xn xp.length = 8 := by unfold wE; rw [if_neg (by rw [ln4.out]; exact ok)]
            have C1 := hid (WE.out 8 e0)
            obtain ⟨eb, el⟩ := w_no (bs := bs) (ls := ls) (n := xn) (l := xp) (by rw [e0]; omega)
            rw [eb, el] at C1
            have CC := hid (fun w4 => rput_out na N nc sb N sd la lo.length lc xn (.slice xa xl xc) w4 ok)
            clear WE e0 eb el ok
            go_wp2_with fail
            with_reducible refine C1.out.mono ?_
            rintro e w4 ⟨rfl, tw, kk, sz⟩
            replace X : Hid (Blk w4 Q 36 #[.int .i64 0, .int .i64 xn, .slice xa xl xc]) := (kk Q (.inr (.inl rfl))).trans X.out
            replace RX : Hid (Blk w4 QR 31 #[.slice na N nc, .slice sb N sd, .slice la lo.length lc]) := (kk QR (.inl rfl)).trans RX.out
            replace PR : Hid (PRow w4 g xl vC) := PR.out.same (kk g (.inr (.inr rfl)))
            replace TW := hid tw
            replace y1 := hid y1
            have y1 := X.out.cellAt 1 _ rfl
            have y2 := X.out.cellAt 2 _ rfl
            have C2 := hid (CC.out w4)
            clear C1 tw kk sz HP CC
            have HP := hid True.intro
            have LD := RX.out.loadAt Try.underlying31 rfl sizeRdk
            go_wp2_with (first | refine wpList_load_at 31 rfl (.tmp 7) rfl _ _ rfl _ LD ?_)
            clear LD
            with_reducible refine C2.out.mono ?_
            rintro e w5 ⟨rfl, b5⟩
            replace TW := hid (TW.out.below b5)
            replace X := hid (X.out.below b5)
            replace RX := hid (RX.out.below b5)
            replace PR := hid (PR.out.below b5)
            clear C2 b5 y1 y2
            have BY := RX.out
            unfold Blk at BY
            have r1 : Hid (PRow (w5.setRow QR #[.slice na N nc, .slice sb N sd, .slice la lo.length lc]) g xl vC) := PR.out.same (setRow_other _ _ _ _ GN.out.2)
            have r2 := hid (TW.out.onl (setRow_onl (q := QR) (cs := #[.slice na N nc, .slice sb N sd, .slice la lo.length lc]) (Onl.refl _ _) (.inl rfl)))
            have r3 := hid (X.out.other (ds := #[.slice na N nc, .slice sb N sd, .slice la lo.length lc]) (Ne.symm QN.out))
            have r4 := hid (RX.out.row #[.slice na N nc, .slice sb N sd, .slice la lo.length lc])
            clear X RX PR TW HP
            go_wp2_with (first | refine wpList_store_row rfl 31 (.tmp 7) (.tmp 96) rfl QR #[.slice na N nc, .slice sb N sd, .slice la lo.length lc] rfl rfl 31 _ BY sizeRdk rfl (by simp [Value.oneCell']) ?_)
            go_meet
            exact ⟨8, _, _, na, nc, sb, sd, la, lc, _, safe, lo, rfl, rfl, r1, r2, r3, r4, RL, by omega⟩
        by_cases k2 : xk = 2
        · subst k2
          have C1 := hid (sa_sync TW.out)
          have RP := hid RL.out.sync
          clear k0
          go_wp2_with fail
          with_reducible refine C1.out.mono ?_
          rintro e w4 ⟨rfl, tw, kk, sz⟩
          replace X : Hid (Blk w4 Q 36 #[.int .i64 2, .int .i64 xn, .slice xa xl xc]) := (kk Q (.inr (.inl rfl))).trans X.out
          replace RX : Hid (Blk w4 QR 31 #[.slice na N nc, .slice sb N sd, .slice la lo.length lc]) := (kk QR (.inl rfl)).trans RX.out
          replace PR : Hid (PRow w4 g xl vC) := PR.out.same (kk g (.inr (.inr rfl)))
          replace TW := hid tw
          have C2 := hid (sa_rsync TW.out NMAX)
          clear C1 tw kk sz HP y1 y2
          have HP := hid True.intro
          have LD := RX.out.loadAt Try.underlying31 rfl sizeRdk
          go_wp2_with (first | refine wpList_load_at 31 rfl (.tmp 7) rfl _ _ rfl _ LD ?_)
          clear LD
          with_reducible refine C2.out.mono ?_
          rintro e w5 ⟨qa, qc, rfl, tw, b5⟩
          replace TW := hid tw
          replace X := hid (X.out.below b5)
          replace RX := hid (RX.out.below b5)
          replace PR := hid (PR.out.below b5)
          clear C2 tw b5
          have BY := RX.out
          unfold Blk at BY
          have r1 : Hid (PRow (w5.setRow QR #[.slice na N nc, .slice qa N qc, .slice none 0 0]) g xl vC) := PR.out.same (setRow_other _ _ _ _ GN.out.2)
          have r2 := hid (TW.out.onl (setRow_onl (q := QR) (cs := #[.slice na N nc, .slice qa N qc, .slice none 0 0]) (Onl.refl _ _) (.inl rfl)))
          have r3 := hid (X.out.other (ds := #[.slice na N nc, .slice qa N qc, .slice none 0 0]) (Ne.symm QN.out))
          have r4 := hid (RX.out.row #[.slice na N nc, .slice qa N qc, .slice none 0 0])
          clear X RX PR TW HP
          go_wp2_with (first | refine wpList_store_row rfl 31 (.tmp 7) (.tmp 103) rfl QR #[.slice na N nc, .slice qa N qc, .slice none 0 0] rfl rfl 31 _ BY sizeRdk rfl (by simp [Value.oneCell']) ?_)
          go_meet
          exact ⟨0, _, _, na, nc, qa, qc, none, 0, _, _, [], rfl, rfl, r1, r2, r3, r4, RP, by simp⟩
        by_cases k3 : xk = 3
        · subst k3
          clear k0 k2
          by_cases neg : xn < 0
          · have C1 := hid (crash_arg D xn w3 neg)
            have C2 := hid (rcrash_arg na N nc sb N sd la lo.length lc xn w3 neg)
            clear HP neg
            have HP := hid True.intro
            go_wp2_with fail
            with_reducible refine C1.out.mono ?_
            rintro e w4 ⟨rfl, rfl⟩
            clear C1
            have LD := RX.out.loadAt Try.underlying31 rfl sizeRdk
            go_wp2_with (first | refine wpList_load_at 31 rfl (.tmp 7) rfl _ _ rfl _ LD ?_)
            clear LD
            with_reducible refine C2.out.mono ?_
            rintro e w5 ⟨rfl, b5⟩
            replace TW := hid (TW.out.below b5)
            replace X := hid (X.out.below b5)
            replace RX := hid (RX.out.below b5)
            replace PR := hid (PR.out.below b5)
            clear C2 b5 y1 y2
            have BY := RX.out
            unfold Blk at BY
            have r1 : Hid (PRow (w5.setRow QR #[.slice na N nc, .slice sb N sd, .slice la lo.length lc]) g xl vC) := PR.out.same (setRow_other _ _ _ _ GN.out.2)
            have r2 := hid (TW.out.onl (setRow_onl (q := QR) (cs := #[.slice na N nc, .slice sb N sd, .slice la lo.length lc]) (Onl.refl _ _) (.inl rfl)))
            have r3 := hid (X.out.other (ds := #[.slice na N nc, .slice sb N sd, .slice la lo.length lc]) (Ne.symm QN.out))
            have r4 := hid (RX.out.row #[.slice na N nc, .slice sb N sd, .slice la lo.length lc])
            clear X RX PR TW HP
            go_wp2_with (first | refine wpList_store_row rfl 31 (.tmp 7) (.tmp 115) rfl QR #[.slice na N nc, .slice sb N sd, .slice la lo.length lc] rfl rfl 31 _ BY sizeRdk rfl (by simp [Value.oneCell']) ?_)
            go_meet
            exact ⟨1, _, _, na, nc, sb, sd, la, lc, _, safe, lo, rfl, rfl, r1, r2, r3, r4, RL, by omega⟩
          · have pos : 0 ≤ xn := by omega
            have C1 := hid (sa_crash TW.out xn pos HI1 (by rw [ln4.out]; exact RL.out.rs) ln3)
            have RP := hid (RL.out.crash xn.toNat)
            clear neg
            go_wp2_with fail
            with_reducible refine C1.out.mono ?_
            rintro e w4 ⟨rfl, tw, kk, sz⟩
            replace X : Hid (Blk w4 Q 36 #[.int .i64 3, .int .i64 xn, .slice xa xl xc]) := (kk Q (.inr (.inl rfl))).trans X.out
            replace RX : Hid (Blk w4 QR 31 #[.slice na N nc, .slice sb N sd, .slice la lo.length lc]) := (kk QR (.inl rfl)).trans RX.out
            replace PR : Hid (PRow w4 g xl vC) := PR.out.same (kk g (.inr (.inr rfl)))
            replace TW := hid tw
            have C2 := hid (sa_rcrash TW.out xn NPOS NMAX ln2 pos RL.out.rl)
            replace y1 := hid y1
            have y1 := X.out.cellAt 1 _ rfl
            clear C1 tw kk sz HP y2
            have HP := hid True.intro
            have LD := RX.out.loadAt Try.underlying31 rfl sizeRdk
            go_wp2_with (first | refine wpList_load_at 31 rfl (.tmp 7) rfl _ _ rfl _ LD ?_)
            clear LD
            with_reducible refine C2.out.mono ?_
            rintro e w5 ⟨qa, qc, ra, rc, rfl, tw, b5⟩
            replace TW := hid tw
            replace X := hid (X.out.below b5)
            replace RX := hid (RX.out.below b5)
            replace PR := hid (PR.out.below b5)
            clear C2 tw b5 y1
            have BY := RX.out
            unfold Blk at BY
            have r1 : Hid (PRow (w5.setRow QR #[.slice qa N qc, .slice ra N rc, .slice none 0 0]) g xl vC) := PR.out.same (setRow_other _ _ _ _ GN.out.2)
            have r2 := hid (TW.out.onl (setRow_onl (q := QR) (cs := #[.slice qa N qc, .slice ra N rc, .slice none 0 0]) (Onl.refl _ _) (.inl rfl)))
            have r3 := hid (X.out.other (ds := #[.slice qa N qc, .slice ra N rc, .slice none 0 0]) (Ne.symm QN.out))
            have r4 := hid (RX.out.row #[.slice qa N qc, .slice ra N rc, .slice none 0 0])
            clear X RX PR TW HP
            go_wp2_with (first | refine wpList_store_row rfl 31 (.tmp 7) (.tmp 115) rfl QR #[.slice qa N qc, .slice ra N rc, .slice none 0 0] rfl rfl 31 _ BY sizeRdk rfl (by simp [Value.oneCell']) ?_)
            go_meet
            exact ⟨0, _, _, qa, qc, ra, rc, none, 0, _, _, [], rfl, rfl, r1, r2, r3, r4, RP, by simp⟩
        have k0' : (xk == 0) = false := by simpa using k0
        have k2' : (xk == 2) = false := by simpa using k2
        have k3' : (xk == 3) = false := by simpa using k3
        clear y1 y2 HP
        go_wp2_with fail
        go_meet
        exact ⟨0, _, _, na, nc, sb, sd, la, lc, _, safe, lo, rfl, rfl, PR, TW, X, RX, RL, by omega⟩
      case rest =>
      clear X RX TW PR HP RL hls
      obtain ⟨E, bs, ls, na, nc, sb, sd, la, lc, now, safe, lo, rfl, rfl, PR, TW, X, RX, RL, hls⟩ := hcut
      generalize wc = w6 at *
      go_wp2_with fail
      go_loopw [119] (fun i wr => ∃ m : Nat, m ≤ xl ∧ i = .int .i64 (m : Int) ∧ Hid (PRow wr g xl vC) ∧ Hid (Sa w wr (fun q => q = QR ∨ q = Q ∨ q = g) D N bs ls na nc sb sd la lc now safe lo) ∧ Hid (Blk wr Q 36 #[.int .i64 xk, .int .i64 xn, .slice xa xl xc]) ∧ Hid (Blk wr QR 31 #[.slice na N nc, .slice sb N sd, .slice la (List.length lo) lc])) (fun i _ => xl - (intOf i).toNat)
      case atStart => exact ⟨0, by omega, rfl, PR, TW, X, RX⟩
      case round =>
        clear PR TW X RX
        obtain ⟨m, hm, rfl, PR, TW, X, RX⟩ := hrel
        have ma : (0 : Int) ≤ (m : Int) := by omega
        by_cases hlm : m < xl
        · have mb : (m : Int) < (xl : Int) := by omega
          have mc : (xl : Int) ≤ (vC : Int) := by have := PR.out.cap; omega
          obtain ⟨y, c0, ff⟩ := PR.out.at hlm
          rename_i wr
          go_upto_region 30 with fail
          have PR2 : Hid (∀ y : Int, PRow (wr.setCell ⟨g, m, none⟩ (.int .u8 y)) g xl vC) := fun y => PR.out.put hlm y
          have TW2 : Hid (∀ y : Int, Sa w (wr.setCell ⟨g, m, none⟩ (.int .u8 y)) (fun q => q = QR ∨ q = Q ∨ q = g) D N bs ls na nc sb sd la lc now safe lo) := fun y => TW.out.onl ((Onl.refl _ _).setCell ⟨g, m, none⟩ _ (.inl (.inr (.inr rfl))))
          have X2 : Hid (∀ y : Int, Blk (wr.setCell ⟨g, m, none⟩ (.int .u8 y)) Q 36 #[.int .i64 xk, .int .i64 xn, .slice xa xl xc]) := fun y => X.out.cellO ⟨g, m, none⟩ _ (by show Q ≠ g; exact Ne.symm GN.out.1)
          have RX2 : Hid (∀ y : Int, Blk (wr.setCell ⟨g, m, none⟩ (.int .u8 y)) QR 31 #[.slice na N nc, .slice sb N sd, .slice la lo.length lc]) := fun y => RX.out.cellO ⟨g, m, none⟩ _ (by show QR ≠ g; exact Ne.symm GN.out.2)
          clear PR TW X RX c0 ff
          go_wp2_with fail
          refine ⟨⟨m + 1, by omega, by go_num, PR2.out _, TW2.out _, X2.out _, RX2.out _⟩, ?_⟩
          simp [intOf]
          try omega
        · have mb : ¬ (m : Int) < (xl : Int) := by omega
          clear hlm hm
          have y1 := X.out.cellAt 1 _ rfl
          obtain ⟨F, G, dk, _, _, _, _, _, rf⟩ := TW.out
          by_cases ok : 0 ≤ xn ∧ xn < (N : Int)
          · obtain ⟨k, rfl⟩ : ∃ k : Nat, xn = (k : Int) := ⟨xn.toNat, by omega⟩
            have hkb : k < bs.length := by rw [RL.out.len]; omega
            have hkn : k < now.length := by rw [RL.out.ln]; omega
            have e9 : bs[k]? = some now[k].p := by rw [RL.out.nw, List.getElem?_map, List.getElem?_eq_getElem hkn]; rfl
            have e8 : bs[k] = now[k].p := by have h := List.getElem?_eq_getElem hkb; rw [e9] at h; exact (Option.some.inj h).symm
            have BK := hid (RL.out.lb _ (List.getElem_mem hkb))
            have C1 := hid (read_in F D bs ls k wr dk hkb)
            have CC := hid (fun W (h : Sa w W (fun q => q = QR ∨ q = Q ∨ q = g) D N bs ls na nc sb sd la lc now safe lo) => by obtain ⟨_, G2, _, _, _, _, _, _, rf2⟩ := h; exact rread_in na N nc now (.slice sb N sd) (.slice la lo.length lc) k W ⟨rfl, rfl⟩ rf2.hn hkn (rf2.en _ (List.getElem_mem hkn)).1 (by rw [← e8]; exact BK.out.2))
            rw [e8] at C1 BK
            clear e8 e9 dk rf ok
            generalize now[k].p = pk at *
            go_wp2_with fail
            with_reducible refine C1.out.mono ?_
            rintro e w8 ⟨q1, rfl, hq1, x1, b1⟩
            replace X := hid (X.out.below b1)
            replace RX := hid (RX.out.below b1)
            replace PR := hid (PR.out.below b1)
            replace TW := hid (TW.out.below b1)
            have HA := hid (pad_holds BK.out.1 x1)
            have C2 := hid (CC.out w8 TW.out)
            replace y1 := hid y1
            have y1 := X.out.cellAt 1 _ rfl
            clear C1 CC x1 b1 hq1
            have LD := RX.out.loadAt Try.underlying31 rfl sizeRdk
            go_wp2_with (first | refine wpList_load_at 31 rfl (.tmp 7) rfl _ _ rfl _ LD ?_)
            clear LD
            with_reducible refine C2.out.mono ?_
            rintro e w9 ⟨q2, rfl, hb2, b2⟩
            replace X := hid (X.out.below b2)
            replace RX := hid (RX.out.below b2)
            replace PR := hid (PR.out.below b2)
            replace TW := hid (TW.out.below b2)
            replace HA := hid (HA.out.below b2)
            have HB := hid hb2
            clear C2 hb2 b2 y1
            go_upto_region 33 with fail
            have d0 := (Below.refl w9.heap.size w9).drew
            replace TW := hid (TW.out.below d0)
            replace X := hid (X.out.below d0)
            replace RX := hid (RX.out.below d0)
            replace PR := hid (PR.out.below d0)
            replace HA := hid (HA.out.below d0)
            replace HB := hid (HB.out.below d0)
            clear d0
            have dS : w9.drew.cell? ⟨QR, 2, none⟩ = some (.slice la lo.length lc) ∧ w9.drew.cell? ⟨QR, 0, none⟩ = some (.slice na N nc) ∧ w9.drew.cell? ⟨g, xl, none⟩ = some (.int .u8 71) := ⟨RX.out.cellAt 2 _ rfl, RX.out.cellAt 0 _ rfl, PR.out.end_⟩
            refine wp_region_held_drew (S := fun W => W.cell? ⟨QR, 2, none⟩ = some (.slice la lo.length lc) ∧ W.cell? ⟨QR, 0, none⟩ = some (.slice na N nc) ∧ W.cell? ⟨g, xl, none⟩ = some (.int .u8 71)) (by kernel_rfl) dS (fun hHeld => ?_)
            generalize w9.drew = wa at *
            have CB := hid (bytes_same _ _ _ _ _ _ _ wa HA.out HB.out)
            obtain ⟨F3, dk3⟩ := sa_dk TW.out
            have CL := hid (loose_any F3 D bs ls wa dk3)
            have CK := hid (blocks_any F3 D bs ls wa dk3)
            rw [RL.out.ll] at CL
            rw [RL.out.len] at CK
            clear dk3
            have DS := hid dS
            clear dS
            have z1 : IntKind.i64.wrap ((xl : Int) + 1) = (xl : Int) + 1 := by rw [IntKind.wrap_i64]; omega
            have z2 : (0 : Int) ≤ (xl : Int) := by omega
            have z3 : (xl : Int) + 1 ≤ (vC : Int) := by have := PR.out.cap; omega
            have z4 : (0 : Int) ≤ (xl : Int) + 1 := by omega
            have z5 : (xl : Int) < (xl : Int) + 1 := by omega
            refine wpAnyH_take (i := 0) (v := .int .i64 E) rfl (by kernel_rfl) (by kernel_rfl) (by kernel_rfl) (fun _ _ _ h => h) (Or.inl ⟨by rfl, ?_⟩) (by assumption) ?_
            · (intro w0 hSw; (try dsimp only at hSw); obtain ⟨g0, g1, g2⟩ := hSw; go_simp)
            (try simp only [Act.put, List.getElem_toArray, List.getElem_cons_succ, List.getElem_cons_zero, List.setIfInBounds_toArray, List.set_cons_zero, List.set_cons_succ])
            refine wpAnyH_take (i := 1) (v := .int .i64 E) rfl (by kernel_rfl) (by kernel_rfl) (by kernel_rfl) (fun _ _ _ h => h) (Or.inl ⟨by rfl, ?_⟩) (by assumption) ?_
            · (intro w0 hSw; (try dsimp only at hSw); obtain ⟨g0, g1, g2⟩ := hSw; go_simp)
            (try simp only [Act.put, List.getElem_toArray, List.getElem_cons_succ, List.getElem_cons_zero, List.setIfInBounds_toArray, List.set_cons_zero, List.set_cons_succ])
            refine wpAnyH_take (i := 2) (v := .bool false) rfl (by kernel_rfl) (by kernel_rfl) (by kernel_rfl) (fun _ _ _ h => h) (Or.inl ⟨by rfl, ?_⟩) (by assumption) ?_
            · (intro w0 hSw; (try dsimp only at hSw); obtain ⟨g0, g1, g2⟩ := hSw; go_simp)
            (try simp only [Act.put, List.getElem_toArray, List.getElem_cons_succ, List.getElem_cons_zero, List.setIfInBounds_toArray, List.set_cons_zero, List.set_cons_succ])
            refine wpAnyH_take (i := 3) (v := .bool false) rfl (by kernel_rfl) (by kernel_rfl) (by kernel_rfl) (fun _ _ _ h => h) (Or.inl ⟨by rfl, ?_⟩) (by assumption) ?_
            · (intro w0 hSw; (try dsimp only at hSw); obtain ⟨g0, g1, g2⟩ := hSw; go_simp)
            (try simp only [Act.put, List.getElem_toArray, List.getElem_cons_succ, List.getElem_cons_zero, List.setIfInBounds_toArray, List.set_cons_zero, List.set_cons_succ])
            refine wpAnyH_take (i := 4) (v := .int .i64 0) rfl (by kernel_rfl) (by kernel_rfl) (by kernel_rfl) (fun _ _ _ h => h) (Or.inl ⟨by rfl, ?_⟩) (by assumption) ?_
            · (intro w0 hSw; (try dsimp only at hSw); obtain ⟨g0, g1, g2⟩ := hSw; go_simp)
            (try simp only [Act.put, List.getElem_toArray, List.getElem_cons_succ, List.getElem_cons_zero, List.setIfInBounds_toArray, List.set_cons_zero, List.set_cons_succ])
            refine wpAnyH_take (i := 5) (v := .int .i64 0) rfl (by kernel_rfl) (by kernel_rfl) (by kernel_rfl) (fun _ _ _ h => h) (Or.inl ⟨by rfl, ?_⟩) (by assumption) ?_
            · (intro w0 hSw; (try dsimp only at hSw); obtain ⟨g0, g1, g2⟩ := hSw; go_simp)
            (try simp only [Act.put, List.getElem_toArray, List.getElem_cons_succ, List.getElem_cons_zero, List.setIfInBounds_toArray, List.set_cons_zero, List.set_cons_succ])
            refine wpAnyH_take (i := 6) (v := .bool false) rfl (by kernel_rfl) (by kernel_rfl) (by kernel_rfl) (fun _ _ _ h => h) (Or.inl ⟨by rfl, ?_⟩) (by assumption) ?_
            · (intro w0 hSw; (try dsimp only at hSw); obtain ⟨g0, g1, g2⟩ := hSw; go_simp)
            (try simp only [Act.put, List.getElem_toArray, List.getElem_cons_succ, List.getElem_cons_zero, List.setIfInBounds_toArray, List.set_cons_zero, List.set_cons_succ])
            refine wpAnyH_take (i := 7) (v := .bool false) rfl (by kernel_rfl) (by kernel_rfl) (by kernel_rfl) (fun _ _ _ h => h) (Or.inl ⟨by rfl, ?_⟩) (by assumption) ?_
            · (intro w0 hSw; (try dsimp only at hSw); obtain ⟨g0, g1, g2⟩ := hSw; go_simp)
            (try simp only [Act.put, List.getElem_toArray, List.getElem_cons_succ, List.getElem_cons_zero, List.setIfInBounds_toArray, List.set_cons_zero, List.set_cons_succ])
            refine wpAnyH_take (i := 8) (v := .bool false) rfl (by kernel_rfl) (by kernel_rfl) (by kernel_rfl) (fun _ _ _ h => h) (Or.inl ⟨by rfl, ?_⟩) (by assumption) ?_
            · (intro w0 hSw; (try dsimp only at hSw); obtain ⟨g0, g1, g2⟩ := hSw; go_simp)
            (try simp only [Act.put, List.getElem_toArray, List.getElem_cons_succ, List.getElem_cons_zero, List.setIfInBounds_toArray, List.set_cons_zero, List.set_cons_succ])
            refine wpAnyH_take (i := 9) (v := .slice (some ⟨q1, 0, none⟩) 64 64) rfl (by kernel_rfl) (by kernel_rfl) (by kernel_rfl) (fun _ _ _ h => h) (Or.inl ⟨by rfl, ?_⟩) (by assumption) ?_
            · (intro w0 hSw; (try dsimp only at hSw); obtain ⟨g0, g1, g2⟩ := hSw; go_simp)
            (try simp only [Act.put, List.getElem_toArray, List.getElem_cons_succ, List.getElem_cons_zero, List.setIfInBounds_toArray, List.set_cons_zero, List.set_cons_succ])
            refine wpAnyH_take (i := 10) (v := .slice (some ⟨q2, 0, none⟩) 64 64) rfl (by kernel_rfl) (by kernel_rfl) (by kernel_rfl) (fun _ _ _ h => h) (Or.inl ⟨by rfl, ?_⟩) (by assumption) ?_
            · (intro w0 hSw; (try dsimp only at hSw); obtain ⟨g0, g1, g2⟩ := hSw; go_simp)
            (try simp only [Act.put, List.getElem_toArray, List.getElem_cons_succ, List.getElem_cons_zero, List.setIfInBounds_toArray, List.set_cons_zero, List.set_cons_succ])
            refine wpAnyH_ready (rs := [11]) (by kernel_rfl) (by simp) ?_
            refine AllReadyH.cons rfl (fun K hK => ?_) AllReadyH.nil
            go_simp
            refine CB.out.mono ?_
            rintro e wz ⟨rfl, rfl⟩
            refine hK.out _ _ DS.out (fun hHeld => ?_)
            clear hK K
            (try simp only [Act.put, List.getElem_toArray, List.getElem_cons_succ, List.getElem_cons_zero, List.setIfInBounds_toArray, List.set_cons_zero, List.set_cons_succ])
            refine wpAnyH_take (i := 12) (v := .bool false) rfl (by kernel_rfl) (by kernel_rfl) (by kernel_rfl) (fun _ _ _ h => h) (Or.inl ⟨by rfl, ?_⟩) (by assumption) ?_
            · (intro w0 hSw; (try dsimp only at hSw); obtain ⟨g0, g1, g2⟩ := hSw; go_simp)
            (try simp only [Act.put, List.getElem_toArray, List.getElem_cons_succ, List.getElem_cons_zero, List.setIfInBounds_toArray, List.set_cons_zero, List.set_cons_succ])
            refine wpAnyH_take (i := 13) (v := .bool false) rfl (by kernel_rfl) (by kernel_rfl) (by kernel_rfl) (fun _ _ _ h => h) (Or.inl ⟨by rfl, ?_⟩) (by assumption) ?_
            · (intro w0 hSw; (try dsimp only at hSw); obtain ⟨g0, g1, g2⟩ := hSw; go_simp)
            (try simp only [Act.put, List.getElem_toArray, List.getElem_cons_succ, List.getElem_cons_zero, List.setIfInBounds_toArray, List.set_cons_zero, List.set_cons_succ])
            refine wpAnyH_take (i := 14) (v := .bool false) rfl (by kernel_rfl) (by kernel_rfl) (by kernel_rfl) (fun _ _ _ h => h) (Or.inl ⟨by rfl, ?_⟩) (by assumption) ?_
            · (intro w0 hSw; (try dsimp only at hSw); obtain ⟨g0, g1, g2⟩ := hSw; go_simp)
            (try simp only [Act.put, List.getElem_toArray, List.getElem_cons_succ, List.getElem_cons_zero, List.setIfInBounds_toArray, List.set_cons_zero, List.set_cons_succ])
            refine wpAnyH_take (i := 15) (v := .pointer (some ⟨D, 0, none⟩)) rfl (by kernel_rfl) (by kernel_rfl) (by kernel_rfl) (fun _ _ _ h => h) (Or.inl ⟨by rfl, ?_⟩) (by assumption) ?_
            · (intro w0 hSw; (try dsimp only at hSw); obtain ⟨g0, g1, g2⟩ := hSw; go_simp)
            (try simp only [Act.put, List.getElem_toArray, List.getElem_cons_succ, List.getElem_cons_zero, List.setIfInBounds_toArray, List.set_cons_zero, List.set_cons_succ])
            refine wpAnyH_take (i := 17) (v := .pointer (some ⟨QR, 2, none⟩)) rfl (by kernel_rfl) (by kernel_rfl) (by kernel_rfl) (fun _ _ _ h => h) (Or.inl ⟨by rfl, ?_⟩) (by assumption) ?_
            · (intro w0 hSw; (try dsimp only at hSw); obtain ⟨g0, g1, g2⟩ := hSw; go_simp)
            (try simp only [Act.put, List.getElem_toArray, List.getElem_cons_succ, List.getElem_cons_zero, List.setIfInBounds_toArray, List.set_cons_zero, List.set_cons_succ])
            refine wpAnyH_take (i := 18) (v := .slice la lo.length lc) rfl (by kernel_rfl) (by kernel_rfl) (by kernel_rfl) (fun _ _ _ h => h) (Or.inl ⟨by rfl, ?_⟩) (by assumption) ?_
            · (intro w0 hSw; (try dsimp only at hSw); obtain ⟨g0, g1, g2⟩ := hSw; go_simp)
            (try simp only [Act.put, List.getElem_toArray, List.getElem_cons_succ, List.getElem_cons_zero, List.setIfInBounds_toArray, List.set_cons_zero, List.set_cons_succ])
            refine wpAnyH_take (i := 19) (v := .int .i64 (lo.length : Int)) rfl (by kernel_rfl) (by kernel_rfl) (by kernel_rfl) (fun _ _ _ h => h) (Or.inl ⟨by rfl, ?_⟩) (by assumption) ?_
            · (intro w0 hSw; (try dsimp only at hSw); obtain ⟨g0, g1, g2⟩ := hSw; go_simp)
            (try simp only [Act.put, List.getElem_toArray, List.getElem_cons_succ, List.getElem_cons_zero, List.setIfInBounds_toArray, List.set_cons_zero, List.set_cons_succ])
            refine wpAnyH_ready (rs := [16]) (by kernel_rfl) (by simp) ?_
            refine AllReadyH.cons rfl (fun K hK => ?_) AllReadyH.nil
            go_simp
            refine CL.out.mono ?_
            rintro e wz ⟨rfl, rfl⟩
            refine hK.out _ _ DS.out (fun hHeld => ?_)
            clear hK K
            (try simp only [Act.put, List.getElem_toArray, List.getElem_cons_succ, List.getElem_cons_zero, List.setIfInBounds_toArray, List.set_cons_zero, List.set_cons_succ])
            refine wpAnyH_take (i := 20) (v := .bool false) rfl (by kernel_rfl) (by kernel_rfl) (by kernel_rfl) (fun _ _ _ h => h) (Or.inl ⟨by rfl, ?_⟩) (by assumption) ?_
            · (intro w0 hSw; (try dsimp only at hSw); obtain ⟨g0, g1, g2⟩ := hSw; go_simp)
            (try simp only [Act.put, List.getElem_toArray, List.getElem_cons_succ, List.getElem_cons_zero, List.setIfInBounds_toArray, List.set_cons_zero, List.set_cons_succ])
            refine wpAnyH_take (i := 21) (v := .bool false) rfl (by kernel_rfl) (by kernel_rfl) (by kernel_rfl) (fun _ _ _ h => h) (Or.inl ⟨by rfl, ?_⟩) (by assumption) ?_
            · (intro w0 hSw; (try dsimp only at hSw); obtain ⟨g0, g1, g2⟩ := hSw; go_simp)
            (try simp only [Act.put, List.getElem_toArray, List.getElem_cons_succ, List.getElem_cons_zero, List.setIfInBounds_toArray, List.set_cons_zero, List.set_cons_succ])
            refine wpAnyH_take (i := 22) (v := .bool false) rfl (by kernel_rfl) (by kernel_rfl) (by kernel_rfl) (fun _ _ _ h => h) (Or.inl ⟨by rfl, ?_⟩) (by assumption) ?_
            · (intro w0 hSw; (try dsimp only at hSw); obtain ⟨g0, g1, g2⟩ := hSw; go_simp)
            (try simp only [Act.put, List.getElem_toArray, List.getElem_cons_succ, List.getElem_cons_zero, List.setIfInBounds_toArray, List.set_cons_zero, List.set_cons_succ])
            refine wpAnyH_take (i := 23) (v := .pointer (some ⟨D, 0, none⟩)) rfl (by kernel_rfl) (by kernel_rfl) (by kernel_rfl) (fun _ _ _ h => h) (Or.inl ⟨by rfl, ?_⟩) (by assumption) ?_
            · (intro w0 hSw; (try dsimp only at hSw); obtain ⟨g0, g1, g2⟩ := hSw; go_simp)
            (try simp only [Act.put, List.getElem_toArray, List.getElem_cons_succ, List.getElem_cons_zero, List.setIfInBounds_toArray, List.set_cons_zero, List.set_cons_succ])
            refine wpAnyH_take (i := 25) (v := .pointer (some ⟨QR, 0, none⟩)) rfl (by kernel_rfl) (by kernel_rfl) (by kernel_rfl) (fun _ _ _ h => h) (Or.inl ⟨by rfl, ?_⟩) (by assumption) ?_
            · (intro w0 hSw; (try dsimp only at hSw); obtain ⟨g0, g1, g2⟩ := hSw; go_simp)
            (try simp only [Act.put, List.getElem_toArray, List.getElem_cons_succ, List.getElem_cons_zero, List.setIfInBounds_toArray, List.set_cons_zero, List.set_cons_succ])
            refine wpAnyH_take (i := 26) (v := .slice na N nc) rfl (by kernel_rfl) (by kernel_rfl) (by kernel_rfl) (fun _ _ _ h => h) (Or.inl ⟨by rfl, ?_⟩) (by assumption) ?_
            · (intro w0 hSw; (try dsimp only at hSw); obtain ⟨g0, g1, g2⟩ := hSw; go_simp)
            (try simp only [Act.put, List.getElem_toArray, List.getElem_cons_succ, List.getElem_cons_zero, List.setIfInBounds_toArray, List.set_cons_zero, List.set_cons_succ])
            refine wpAnyH_take (i := 27) (v := .int .i64 (N : Int)) rfl (by kernel_rfl) (by kernel_rfl) (by kernel_rfl) (fun _ _ _ h => h) (Or.inl ⟨by rfl, ?_⟩) (by assumption) ?_
            · (intro w0 hSw; (try dsimp only at hSw); obtain ⟨g0, g1, g2⟩ := hSw; go_simp)
            (try simp only [Act.put, List.getElem_toArray, List.getElem_cons_succ, List.getElem_cons_zero, List.setIfInBounds_toArray, List.set_cons_zero, List.set_cons_succ])
            refine wpAnyH_ready (rs := [24]) (by kernel_rfl) (by simp) ?_
            refine AllReadyH.cons rfl (fun K hK => ?_) AllReadyH.nil
            go_simp
            refine CK.out.mono ?_
            rintro e wz ⟨rfl, rfl⟩
            refine hK.out _ _ DS.out (fun hHeld => ?_)
            clear hK K
            (try simp only [Act.put, List.getElem_toArray, List.getElem_cons_succ, List.getElem_cons_zero, List.setIfInBounds_toArray, List.set_cons_zero, List.set_cons_succ])
            refine wpAnyH_take (i := 28) (v := .bool false) rfl (by kernel_rfl) (by kernel_rfl) (by kernel_rfl) (fun _ _ _ h => h) (Or.inl ⟨by rfl, ?_⟩) (by assumption) ?_
            · (intro w0 hSw; (try dsimp only at hSw); obtain ⟨g0, g1, g2⟩ := hSw; go_simp)
            (try simp only [Act.put, List.getElem_toArray, List.getElem_cons_succ, List.getElem_cons_zero, List.setIfInBounds_toArray, List.set_cons_zero, List.set_cons_succ])
            refine wpAnyH_take (i := 29) (v := .bool false) rfl (by kernel_rfl) (by kernel_rfl) (by kernel_rfl) (fun _ _ _ h => h) (Or.inl ⟨by rfl, ?_⟩) (by assumption) ?_
            · (intro w0 hSw; (try dsimp only at hSw); obtain ⟨g0, g1, g2⟩ := hSw; go_simp)
            (try simp only [Act.put, List.getElem_toArray, List.getElem_cons_succ, List.getElem_cons_zero, List.setIfInBounds_toArray, List.set_cons_zero, List.set_cons_succ])
            refine wpAnyH_take (i := 30) (v := .bool false) rfl (by kernel_rfl) (by kernel_rfl) (by kernel_rfl) (fun _ _ _ h => h) (Or.inl ⟨by rfl, ?_⟩) (by assumption) ?_
            · (intro w0 hSw; (try dsimp only at hSw); obtain ⟨g0, g1, g2⟩ := hSw; go_simp)
            (try simp only [Act.put, List.getElem_toArray, List.getElem_cons_succ, List.getElem_cons_zero, List.setIfInBounds_toArray, List.set_cons_zero, List.set_cons_succ])
            refine wpAnyH_take (i := 31) (v := .slice (some ⟨g, 0, none⟩) xl vC) rfl (by kernel_rfl) (by kernel_rfl) (by kernel_rfl) (fun _ _ _ h => h) (Or.inl ⟨by rfl, ?_⟩) (by assumption) ?_
            · (intro w0 hSw; (try dsimp only at hSw); obtain ⟨g0, g1, g2⟩ := hSw; go_simp)
            (try simp only [Act.put, List.getElem_toArray, List.getElem_cons_succ, List.getElem_cons_zero, List.setIfInBounds_toArray, List.set_cons_zero, List.set_cons_succ])
            refine wpAnyH_take (i := 32) (v := .slice (some ⟨g, 0, none⟩) xl vC) rfl (by kernel_rfl) (by kernel_rfl) (by kernel_rfl) (fun _ _ _ h => h) (Or.inl ⟨by rfl, ?_⟩) (by assumption) ?_
            · (intro w0 hSw; (try dsimp only at hSw); obtain ⟨g0, g1, g2⟩ := hSw; go_simp)
            (try simp only [Act.put, List.getElem_toArray, List.getElem_cons_succ, List.getElem_cons_zero, List.setIfInBounds_toArray, List.set_cons_zero, List.set_cons_succ])
            refine wpAnyH_take (i := 33) (v := .int .i64 (xl : Int)) rfl (by kernel_rfl) (by kernel_rfl) (by kernel_rfl) (fun _ _ _ h => h) (Or.inl ⟨by rfl, ?_⟩) (by assumption) ?_
            · (intro w0 hSw; (try dsimp only at hSw); obtain ⟨g0, g1, g2⟩ := hSw; go_simp)
            (try simp only [Act.put, List.getElem_toArray, List.getElem_cons_succ, List.getElem_cons_zero, List.setIfInBounds_toArray, List.set_cons_zero, List.set_cons_succ])
            refine wpAnyH_take (i := 34) (v := .int .i64 ((xl : Int) + 1)) rfl (by kernel_rfl) (by kernel_rfl) (by kernel_rfl) (fun _ _ _ h => h) (Or.inl ⟨by rfl, ?_⟩) (by assumption) ?_
            · (intro w0 hSw; (try dsimp only at hSw); obtain ⟨g0, g1, g2⟩ := hSw; go_simp)
            (try simp only [Act.put, List.getElem_toArray, List.getElem_cons_succ, List.getElem_cons_zero, List.setIfInBounds_toArray, List.set_cons_zero, List.set_cons_succ])
            refine wpAnyH_take (i := 35) (v := .slice (some ⟨g, 0, none⟩) (xl + 1) vC) rfl (by kernel_rfl) (by kernel_rfl) (by kernel_rfl) (fun _ _ _ h => h) (Or.inl ⟨by rfl, ?_⟩) (by assumption) ?_
            · (intro w0 hSw; (try dsimp only at hSw); obtain ⟨g0, g1, g2⟩ := hSw; go_simp)
            (try simp only [Act.put, List.getElem_toArray, List.getElem_cons_succ, List.getElem_cons_zero, List.setIfInBounds_toArray, List.set_cons_zero, List.set_cons_succ])
            refine wpAnyH_take (i := 36) (v := .slice (some ⟨g, 0, none⟩) xl vC) rfl (by kernel_rfl) (by kernel_rfl) (by kernel_rfl) (fun _ _ _ h => h) (Or.inl ⟨by rfl, ?_⟩) (by assumption) ?_
            · (intro w0 hSw; (try dsimp only at hSw); obtain ⟨g0, g1, g2⟩ := hSw; go_simp)
            (try simp only [Act.put, List.getElem_toArray, List.getElem_cons_succ, List.getElem_cons_zero, List.setIfInBounds_toArray, List.set_cons_zero, List.set_cons_succ])
            refine wpAnyH_take (i := 37) (v := .int .i64 (xl : Int)) rfl (by kernel_rfl) (by kernel_rfl) (by kernel_rfl) (fun _ _ _ h => h) (Or.inl ⟨by rfl, ?_⟩) (by assumption) ?_
            · (intro w0 hSw; (try dsimp only at hSw); obtain ⟨g0, g1, g2⟩ := hSw; go_simp)
            (try simp only [Act.put, List.getElem_toArray, List.getElem_cons_succ, List.getElem_cons_zero, List.setIfInBounds_toArray, List.set_cons_zero, List.set_cons_succ])
            refine wpAnyH_take (i := 38) (v := .pointer (some ⟨g, xl, none⟩)) rfl (by kernel_rfl) (by kernel_rfl) (by kernel_rfl) (fun _ _ _ h => h) (Or.inl ⟨by rfl, ?_⟩) (by assumption) ?_
            · (intro w0 hSw; (try dsimp only at hSw); obtain ⟨g0, g1, g2⟩ := hSw; go_simp)
            (try simp only [Act.put, List.getElem_toArray, List.getElem_cons_succ, List.getElem_cons_zero, List.setIfInBounds_toArray, List.set_cons_zero, List.set_cons_succ])
            refine wpAnyH_take (i := 39) (v := .int .u8 71) rfl (by kernel_rfl) (by kernel_rfl) (by kernel_rfl) (fun _ _ _ h => h) (Or.inl ⟨by rfl, ?_⟩) (by assumption) ?_
            · (intro w0 hSw; (try dsimp only at hSw); obtain ⟨g0, g1, g2⟩ := hSw; go_simp)
            (try simp only [Act.put, List.getElem_toArray, List.getElem_cons_succ, List.getElem_cons_zero, List.setIfInBounds_toArray, List.set_cons_zero, List.set_cons_succ])
            refine wpAnyH_take (i := 40) (v := .bool false) rfl (by kernel_rfl) (by kernel_rfl) (by kernel_rfl) (fun _ _ _ h => h) (Or.inl ⟨by rfl, ?_⟩) (by assumption) ?_
            · (intro w0 hSw; (try dsimp only at hSw); obtain ⟨g0, g1, g2⟩ := hSw; go_simp)
            (try simp only [Act.put, List.getElem_toArray, List.getElem_cons_succ, List.getElem_cons_zero, List.setIfInBounds_toArray, List.set_cons_zero, List.set_cons_succ])
            refine wpAnyH_take (i := 41) (v := .bool false) rfl (by kernel_rfl) (by kernel_rfl) (by kernel_rfl) (fun _ _ _ h => h) (Or.inl ⟨by rfl, ?_⟩) (by assumption) ?_
            · (intro w0 hSw; (try dsimp only at hSw); obtain ⟨g0, g1, g2⟩ := hSw; go_simp)
            (try simp only [Act.put, List.getElem_toArray, List.getElem_cons_succ, List.getElem_cons_zero, List.setIfInBounds_toArray, List.set_cons_zero, List.set_cons_succ])
            refine wpAnyH_done (by kernel_rfl) ?_ _
            clear hHeld z1 z2 z3 z4 z5 CB CL CK DS HA HB
            replace TW := hid (TW.out.mono (E' := fun q => q = QR) (fun q hq => .inl hq))
            clear X PR
            go_wp2_with fail
            refine ⟨⟨j + 1, by omega, by go_num, bs, ls, na, nc, sb, sd, la, lc, now, safe, lo, TW, RX, RL, by omega⟩, ?_⟩
            simp [intOf]
            try omega
          · have C1 := hid (read_out F D bs ls xn wr dk (by rw [RL.out.len]; exact ok))
            have C2 := hid (rread_out na N nc (.slice sb N sd) (.slice la lo.length lc) xn wr ⟨rfl, rfl⟩ ok)
            clear dk rf ok
            go_wp2_with fail
            with_reducible refine C1.out.mono ?_
            rintro e w8 ⟨rfl, rfl⟩
            clear C1
            have LD := RX.out.loadAt Try.underlying31 rfl sizeRdk
            go_wp2_with (first | refine wpList_load_at 31 rfl (.tmp 7) rfl _ _ rfl _ LD ?_)
            clear LD
            with_reducible refine C2.out.mono ?_
            rintro e w9 ⟨rfl, b2⟩
            replace X := hid (X.out.below b2)
            replace RX := hid (RX.out.below b2)
            replace PR := hid (PR.out.below b2)
            replace TW := hid (TW.out.below b2)
            have HA := hid (holdsB_none w9)
            have HB := hid (holdsB_none w9)
            clear C2 b2 y1
            go_upto_region 33 with fail
            have d0 := (Below.refl w9.heap.size w9).drew
            replace TW := hid (TW.out.below d0)
            replace X := hid (X.out.below d0)
            replace RX := hid (RX.out.below d0)
            replace PR := hid (PR.out.below d0)
            replace HA := hid (HA.out.below d0)
            replace HB := hid (HB.out.below d0)
            clear d0
            have dS : w9.drew.cell? ⟨QR, 2, none⟩ = some (.slice la lo.length lc) ∧ w9.drew.cell? ⟨QR, 0, none⟩ = some (.slice na N nc) ∧ w9.drew.cell? ⟨g, xl, none⟩ = some (.int .u8 71) := ⟨RX.out.cellAt 2 _ rfl, RX.out.cellAt 0 _ rfl, PR.out.end_⟩
            refine wp_region_held_drew (S := fun W => W.cell? ⟨QR, 2, none⟩ = some (.slice la lo.length lc) ∧ W.cell? ⟨QR, 0, none⟩ = some (.slice na N nc) ∧ W.cell? ⟨g, xl, none⟩ = some (.int .u8 71)) (by kernel_rfl) dS (fun hHeld => ?_)
            generalize w9.drew = wa at *
            have CB := hid (bytes_same _ _ _ _ _ _ _ wa HA.out HB.out)
            obtain ⟨F3, dk3⟩ := sa_dk TW.out
            have CL := hid (loose_any F3 D bs ls wa dk3)
            have CK := hid (blocks_any F3 D bs ls wa dk3)
            rw [RL.out.ll] at CL
            rw [RL.out.len] at CK
            clear dk3
            have DS := hid dS
            clear dS
            have z1 : IntKind.i64.wrap ((xl : Int) + 1) = (xl : Int) + 1 := by rw [IntKind.wrap_i64]; omega
            have z2 : (0 : Int) ≤ (xl : Int) := by omega
            have z3 : (xl : Int) + 1 ≤ (vC : Int) := by have := PR.out.cap; omega
            have z4 : (0 : Int) ≤ (xl : Int) + 1 := by omega
            have z5 : (xl : Int) < (xl : Int) + 1 := by omega
            refine wpAnyH_take (i := 0) (v := .int .i64 E) rfl (by kernel_rfl) (by kernel_rfl) (by kernel_rfl) (fun _ _ _ h => h) (Or.inl ⟨by rfl, ?_⟩) (by assumption) ?_
            · (intro w0 hSw; (try dsimp only at hSw); obtain ⟨g0, g1, g2⟩ := hSw; go_simp)
            (try simp only [Act.put, List.getElem_toArray, List.getElem_cons_succ, List.getElem_cons_zero, List.setIfInBounds_toArray, List.set_cons_zero, List.set_cons_succ])
            refine wpAnyH_take (i := 1) (v := .int .i64 E) rfl (by kernel_rfl) (by kernel_rfl) (by kernel_rfl) (fun _ _ _ h => h) (Or.inl ⟨by rfl, ?_⟩) (by assumption) ?_
            · (intro w0 hSw; (try dsimp only at hSw); obtain ⟨g0, g1, g2⟩ := hSw; go_simp)
            (try simp only [Act.put, List.getElem_toArray, List.getElem_cons_succ, List.getElem_cons_zero, List.setIfInBounds_toArray, List.set_cons_zero, List.set_cons_succ])
            refine wpAnyH_take (i := 2) (v := .bool false) rfl (by kernel_rfl) (by kernel_rfl) (by kernel_rfl) (fun _ _ _ h => h) (Or.inl ⟨by rfl, ?_⟩) (by assumption) ?_
            · (intro w0 hSw; (try dsimp only at hSw); obtain ⟨g0, g1, g2⟩ := hSw; go_simp)
            (try simp only [Act.put, List.getElem_toArray, List.getElem_cons_succ, List.getElem_cons_zero, List.setIfInBounds_toArray, List.set_cons_zero, List.set_cons_succ])
            refine wpAnyH_take (i := 3) (v := .bool false) rfl (by kernel_rfl) (by kernel_rfl) (by kernel_rfl) (fun _ _ _ h => h) (Or.inl ⟨by rfl, ?_⟩) (by assumption) ?_
            · (intro w0 hSw; (try dsimp only at hSw); obtain ⟨g0, g1, g2⟩ := hSw; go_simp)
            (try simp only [Act.put, List.getElem_toArray, List.getElem_cons_succ, List.getElem_cons_zero, List.setIfInBounds_toArray, List.set_cons_zero, List.set_cons_succ])
            refine wpAnyH_take (i := 4) (v := .int .i64 8) rfl (by kernel_rfl) (by kernel_rfl) (by kernel_rfl) (fun _ _ _ h => h) (Or.inl ⟨by rfl, ?_⟩) (by assumption) ?_
            · (intro w0 hSw; (try dsimp only at hSw); obtain ⟨g0, g1, g2⟩ := hSw; go_simp)
            (try simp only [Act.put, List.getElem_toArray, List.getElem_cons_succ, List.getElem_cons_zero, List.setIfInBounds_toArray, List.set_cons_zero, List.set_cons_succ])
            refine wpAnyH_take (i := 5) (v := .int .i64 8) rfl (by kernel_rfl) (by kernel_rfl) (by kernel_rfl) (fun _ _ _ h => h) (Or.inl ⟨by rfl, ?_⟩) (by assumption) ?_
            · (intro w0 hSw; (try dsimp only at hSw); obtain ⟨g0, g1, g2⟩ := hSw; go_simp)
            (try simp only [Act.put, List.getElem_toArray, List.getElem_cons_succ, List.getElem_cons_zero, List.setIfInBounds_toArray, List.set_cons_zero, List.set_cons_succ])
            refine wpAnyH_take (i := 6) (v := .bool false) rfl (by kernel_rfl) (by kernel_rfl) (by kernel_rfl) (fun _ _ _ h => h) (Or.inl ⟨by rfl, ?_⟩) (by assumption) ?_
            · (intro w0 hSw; (try dsimp only at hSw); obtain ⟨g0, g1, g2⟩ := hSw; go_simp)
            (try simp only [Act.put, List.getElem_toArray, List.getElem_cons_succ, List.getElem_cons_zero, List.setIfInBounds_toArray, List.set_cons_zero, List.set_cons_succ])
            refine wpAnyH_take (i := 7) (v := .bool false) rfl (by kernel_rfl) (by kernel_rfl) (by kernel_rfl) (fun _ _ _ h => h) (Or.inl ⟨by rfl, ?_⟩) (by assumption) ?_
            · (intro w0 hSw; (try dsimp only at hSw); obtain ⟨g0, g1, g2⟩ := hSw; go_simp)
            (try simp only [Act.put, List.getElem_toArray, List.getElem_cons_succ, List.getElem_cons_zero, List.setIfInBounds_toArray, List.set_cons_zero, List.set_cons_succ])
            refine wpAnyH_take (i := 8) (v := .bool false) rfl (by kernel_rfl) (by kernel_rfl) (by kernel_rfl) (fun _ _ _ h => h) (Or.inl ⟨by rfl, ?_⟩) (by assumption) ?_
            · (intro w0 hSw; (try dsimp only at hSw); obtain ⟨g0, g1, g2⟩ := hSw; go_simp)
            (try simp only [Act.put, List.getElem_toArray, List.getElem_cons_succ, List.getElem_cons_zero, List.setIfInBounds_toArray, List.set_cons_zero, List.set_cons_succ])
            refine wpAnyH_take (i := 9) (v := .slice none 0 0) rfl (by kernel_rfl) (by kernel_rfl) (by kernel_rfl) (fun _ _ _ h => h) (Or.inl ⟨by rfl, ?_⟩) (by assumption) ?_
            · (intro w0 hSw; (try dsimp only at hSw); obtain ⟨g0, g1, g2⟩ := hSw; go_simp)
            (try simp only [Act.put, List.getElem_toArray, List.getElem_cons_succ, List.getElem_cons_zero, List.setIfInBounds_toArray, List.set_cons_zero, List.set_cons_succ])
            refine wpAnyH_take (i := 10) (v := .slice none 0 0) rfl (by kernel_rfl) (by kernel_rfl) (by kernel_rfl) (fun _ _ _ h => h) (Or.inl ⟨by rfl, ?_⟩) (by assumption) ?_
            · (intro w0 hSw; (try dsimp only at hSw); obtain ⟨g0, g1, g2⟩ := hSw; go_simp)
            (try simp only [Act.put, List.getElem_toArray, List.getElem_cons_succ, List.getElem_cons_zero, List.setIfInBounds_toArray, List.set_cons_zero, List.set_cons_succ])
            refine wpAnyH_ready (rs := [11]) (by kernel_rfl) (by simp) ?_
            refine AllReadyH.cons rfl (fun K hK => ?_) AllReadyH.nil
            go_simp
            refine CB.out.mono ?_
            rintro e wz ⟨rfl, rfl⟩
            refine hK.out _ _ DS.out (fun hHeld => ?_)
            clear hK K
            (try simp only [Act.put, List.getElem_toArray, List.getElem_cons_succ, List.getElem_cons_zero, List.setIfInBounds_toArray, List.set_cons_zero, List.set_cons_succ])
            refine wpAnyH_take (i := 12) (v := .bool false) rfl (by kernel_rfl) (by kernel_rfl) (by kernel_rfl) (fun _ _ _ h => h) (Or.inl ⟨by rfl, ?_⟩) (by assumption) ?_
            · (intro w0 hSw; (try dsimp only at hSw); obtain ⟨g0, g1, g2⟩ := hSw; go_simp)
            (try simp only [Act.put, List.getElem_toArray, List.getElem_cons_succ, List.getElem_cons_zero, List.setIfInBounds_toArray, List.set_cons_zero, List.set_cons_succ])
            refine wpAnyH_take (i := 13) (v := .bool false) rfl (by kernel_rfl) (by kernel_rfl) (by kernel_rfl) (fun _ _ _ h => h) (Or.inl ⟨by rfl, ?_⟩) (by assumption) ?_
            · (intro w0 hSw; (try dsimp only at hSw); obtain ⟨g0, g1, g2⟩ := hSw; go_simp)
            (try simp only [Act.put, List.getElem_toArray, List.getElem_cons_succ, List.getElem_cons_zero, List.setIfInBounds_toArray, List.set_cons_zero, List.set_cons_succ])
            refine wpAnyH_take (i := 14) (v := .bool false) rfl (by kernel_rfl) (by kernel_rfl) (by kernel_rfl) (fun _ _ _ h => h) (Or.inl ⟨by rfl, ?_⟩) (by assumption) ?_
            · (intro w0 hSw; (try dsimp only at hSw); obtain ⟨g0, g1, g2⟩ := hSw; go_simp)
            (try simp only [Act.put, List.getElem_toArray, List.getElem_cons_succ, List.getElem_cons_zero, List.setIfInBounds_toArray, List.set_cons_zero, List.set_cons_succ])
            refine wpAnyH_take (i := 15) (v := .pointer (some ⟨D, 0, none⟩)) rfl (by kernel_rfl) (by kernel_rfl) (by kernel_rfl) (fun _ _ _ h => h) (Or.inl ⟨by rfl, ?_⟩) (by assumption) ?_
            · (intro w0 hSw; (try dsimp only at hSw); obtain ⟨g0, g1, g2⟩ := hSw; go_simp)
            (try simp only [Act.put, List.getElem_toArray, List.getElem_cons_succ, List.getElem_cons_zero, List.setIfInBounds_toArray, List.set_cons_zero, List.set_cons_succ])
            refine wpAnyH_take (i := 17) (v := .pointer (some ⟨QR, 2, none⟩)) rfl (by kernel_rfl) (by kernel_rfl) (by kernel_rfl) (fun _ _ _ h => h) (Or.inl ⟨by rfl, ?_⟩) (by assumption) ?_
            · (intro w0 hSw; (try dsimp only at hSw); obtain ⟨g0, g1, g2⟩ := hSw; go_simp)
            (try simp only [Act.put, List.getElem_toArray, List.getElem_cons_succ, List.getElem_cons_zero, List.setIfInBounds_toArray, List.set_cons_zero, List.set_cons_succ])
            refine wpAnyH_take (i := 18) (v := .slice la lo.length lc) rfl (by kernel_rfl) (by kernel_rfl) (by kernel_rfl) (fun _ _ _ h => h) (Or.inl ⟨by rfl, ?_⟩) (by assumption) ?_
            · (intro w0 hSw; (try dsimp only at hSw); obtain ⟨g0, g1, g2⟩ := hSw; go_simp)
            (try simp only [Act.put, List.getElem_toArray, List.getElem_cons_succ, List.getElem_cons_zero, List.setIfInBounds_toArray, List.set_cons_zero, List.set_cons_succ])
            refine wpAnyH_take (i := 19) (v := .int .i64 (lo.length : Int)) rfl (by kernel_rfl) (by kernel_rfl) (by kernel_rfl) (fun _ _ _ h => h) (Or.inl ⟨by rfl, ?_⟩) (by assumption) ?_
            · (intro w0 hSw; (try dsimp only at hSw); obtain ⟨g0, g1, g2⟩ := hSw; go_simp)
            (try simp only [Act.put, List.getElem_toArray, List.getElem_cons_succ, List.getElem_cons_zero, List.setIfInBounds_toArray, List.set_cons_zero, List.set_cons_succ])
            refine wpAnyH_ready (rs := [16]) (by kernel_rfl) (by simp) ?_
            refine AllReadyH.cons rfl (fun K hK => ?_) AllReadyH.nil
            go_simp
            refine CL.out.mono ?_
            rintro e wz ⟨rfl, rfl⟩
            refine hK.out _ _ DS.out (fun hHeld => ?_)
            clear hK K
            (try simp only [Act.put, List.getElem_toArray, List.getElem_cons_succ, List.getElem_cons_zero, List.setIfInBounds_toArray, List.set_cons_zero, List.set_cons_succ])
            refine wpAnyH_take (i := 20) (v := .bool false) rfl (by kernel_rfl) (by kernel_rfl) (by kernel_rfl) (fun _ _ _ h => h) (Or.inl ⟨by rfl, ?_⟩) (by assumption) ?_
            · (intro w0 hSw; (try dsimp only at hSw); obtain ⟨g0, g1, g2⟩ := hSw; go_simp)
            (try simp only [Act.put, List.getElem_toArray, List.getElem_cons_succ, List.getElem_cons_zero, List.setIfInBounds_toArray, List.set_cons_zero, List.set_cons_succ])
            refine wpAnyH_take (i := 21) (v := .bool false) rfl (by kernel_rfl) (by kernel_rfl) (by kernel_rfl) (fun _ _ _ h => h) (Or.inl ⟨by rfl, ?_⟩) (by assumption) ?_
            · (intro w0 hSw; (try dsimp only at hSw); obtain ⟨g0, g1, g2⟩ := hSw; go_simp)
            (try simp only [Act.put, List.getElem_toArray, List.getElem_cons_succ, List.getElem_cons_zero, List.setIfInBounds_toArray, List.set_cons_zero, List.set_cons_succ])
            refine wpAnyH_take (i := 22) (v := .bool false) rfl (by kernel_rfl) (by kernel_rfl) (by kernel_rfl) (fun _ _ _ h => h) (Or.inl ⟨by rfl, ?_⟩) (by assumption) ?_
            · (intro w0 hSw; (try dsimp only at hSw); obtain ⟨g0, g1, g2⟩ := hSw; go_simp)
            (try simp only [Act.put, List.getElem_toArray, List.getElem_cons_succ, List.getElem_cons_zero, List.setIfInBounds_toArray, List.set_cons_zero, List.set_cons_succ])
            refine wpAnyH_take (i := 23) (v := .pointer (some ⟨D, 0, none⟩)) rfl (by kernel_rfl) (by kernel_rfl) (by kernel_rfl) (fun _ _ _ h => h) (Or.inl ⟨by rfl, ?_⟩) (by assumption) ?_
            · (intro w0 hSw; (try dsimp only at hSw); obtain ⟨g0, g1, g2⟩ := hSw; go_simp)
            (try simp only [Act.put, List.getElem_toArray, List.getElem_cons_succ, List.getElem_cons_zero, List.setIfInBounds_toArray, List.set_cons_zero, List.set_cons_succ])
            refine wpAnyH_take (i := 25) (v := .pointer (some ⟨QR, 0, none⟩)) rfl (by kernel_rfl) (by kernel_rfl) (by kernel_rfl) (fun _ _ _ h => h) (Or.inl ⟨by rfl, ?_⟩) (by assumption) ?_
            · (intro w0 hSw; (try dsimp only at hSw); obtain ⟨g0, g1, g2⟩ := hSw; go_simp)
            (try simp only [Act.put, List.getElem_toArray, List.getElem_cons_succ, List.getElem_cons_zero, List.setIfInBounds_toArray, List.set_cons_zero, List.set_cons_succ])
            refine wpAnyH_take (i := 26) (v := .slice na N nc) rfl (by kernel_rfl) (by kernel_rfl) (by kernel_rfl) (fun _ _ _ h => h) (Or.inl ⟨by rfl, ?_⟩) (by assumption) ?_
            · (intro w0 hSw; (try dsimp only at hSw); obtain ⟨g0, g1, g2⟩ := hSw; go_simp)
            (try simp only [Act.put, List.getElem_toArray, List.getElem_cons_succ, List.getElem_cons_zero, List.setIfInBounds_toArray, List.set_cons_zero, List.set_cons_succ])
            refine wpAnyH_take (i := 27) (v := .int .i64 (N : Int)) rfl (by kernel_rfl) (by kernel_rfl) (by kernel_rfl) (fun _ _ _ h => h) (Or.inl ⟨by rfl, ?_⟩) (by assumption) ?_
            · (intro w0 hSw; (try dsimp only at hSw); obtain ⟨g0, g1, g2⟩ := hSw; go_simp)
            (try simp only [Act.put, List.getElem_toArray, List.getElem_cons_succ, List.getElem_cons_zero, List.setIfInBounds_toArray, List.set_cons_zero, List.set_cons_succ])
            refine wpAnyH_ready (rs := [24]) (by kernel_rfl) (by simp) ?_
            refine AllReadyH.cons rfl (fun K hK => ?_) AllReadyH.nil
            go_simp
            refine CK.out.mono ?_
            rintro e wz ⟨rfl, rfl⟩
            refine hK.out _ _ DS.out (fun hHeld => ?_)
            clear hK K
            (try simp only [Act.put, List.getElem_toArray, List.getElem_cons_succ, List.getElem_cons_zero, List.setIfInBounds_toArray, List.set_cons_zero, List.set_cons_succ])
            refine wpAnyH_take (i := 28) (v := .bool false) rfl (by kernel_rfl) (by kernel_rfl) (by kernel_rfl) (fun _ _ _ h => h) (Or.inl ⟨by rfl, ?_⟩) (by assumption) ?_
            · (intro w0 hSw; (try dsimp only at hSw); obtain ⟨g0, g1, g2⟩ := hSw; go_simp)
            (try simp only [Act.put, List.getElem_toArray, List.getElem_cons_succ, List.getElem_cons_zero, List.setIfInBounds_toArray, List.set_cons_zero, List.set_cons_succ])
            refine wpAnyH_take (i := 29) (v := .bool false) rfl (by kernel_rfl) (by kernel_rfl) (by kernel_rfl) (fun _ _ _ h => h) (Or.inl ⟨by rfl, ?_⟩) (by assumption) ?_
            · (intro w0 hSw; (try dsimp only at hSw); obtain ⟨g0, g1, g2⟩ := hSw; go_simp)
            (try simp only [Act.put, List.getElem_toArray, List.getElem_cons_succ, List.getElem_cons_zero, List.setIfInBounds_toArray, List.set_cons_zero, List.set_cons_succ])
            refine wpAnyH_take (i := 30) (v := .bool false) rfl (by kernel_rfl) (by kernel_rfl) (by kernel_rfl) (fun _ _ _ h => h) (Or.inl ⟨by rfl, ?_⟩) (by assumption) ?_
            · (intro w0 hSw; (try dsimp only at hSw); obtain ⟨g0, g1, g2⟩ := hSw; go_simp)
            (try simp only [Act.put, List.getElem_toArray, List.getElem_cons_succ, List.getElem_cons_zero, List.setIfInBounds_toArray, List.set_cons_zero, List.set_cons_succ])
            refine wpAnyH_take (i := 31) (v := .slice (some ⟨g, 0, none⟩) xl vC) rfl (by kernel_rfl) (by kernel_rfl) (by kernel_rfl) (fun _ _ _ h => h) (Or.inl ⟨by rfl, ?_⟩) (by assumption) ?_
            · (intro w0 hSw; (try dsimp only at hSw); obtain ⟨g0, g1, g2⟩ := hSw; go_simp)
            (try simp only [Act.put, List.getElem_toArray, List.getElem_cons_succ, List.getElem_cons_zero, List.setIfInBounds_toArray, List.set_cons_zero, List.set_cons_succ])
            refine wpAnyH_take (i := 32) (v := .slice (some ⟨g, 0, none⟩) xl vC) rfl (by kernel_rfl) (by kernel_rfl) (by kernel_rfl) (fun _ _ _ h => h) (Or.inl ⟨by rfl, ?_⟩) (by assumption) ?_
            · (intro w0 hSw; (try dsimp only at hSw); obtain ⟨g0, g1, g2⟩ := hSw; go_simp)
            (try simp only [Act.put, List.getElem_toArray, List.getElem_cons_succ, List.getElem_cons_zero, List.setIfInBounds_toArray, List.set_cons_zero, List.set_cons_succ])
            refine wpAnyH_take (i := 33) (v := .int .i64 (xl : Int)) rfl (by kernel_rfl) (by kernel_rfl) (by kernel_rfl) (fun _ _ _ h => h) (Or.inl ⟨by rfl, ?_⟩) (by assumption) ?_
            · (intro w0 hSw; (try dsimp only at hSw); obtain ⟨g0, g1, g2⟩ := hSw; go_simp)
            (try simp only [Act.put, List.getElem_toArray, List.getElem_cons_succ, List.getElem_cons_zero, List.setIfInBounds_toArray, List.set_cons_zero, List.set_cons_succ])
            refine wpAnyH_take (i := 34) (v := .int .i64 ((xl : Int) + 1)) rfl (by kernel_rfl) (by kernel_rfl) (by kernel_rfl) (fun _ _ _ h => h) (Or.inl ⟨by rfl, ?_⟩) (by assumption) ?_
            · (intro w0 hSw; (try dsimp only at hSw); obtain ⟨g0, g1, g2⟩ := hSw; go_simp)
            (try simp only [Act.put, List.getElem_toArray, List.getElem_cons_succ, List.getElem_cons_zero, List.setIfInBounds_toArray, List.set_cons_zero, List.set_cons_succ])
            refine wpAnyH_take (i := 35) (v := .slice (some ⟨g, 0, none⟩) (xl + 1) vC) rfl (by kernel_rfl) (by kernel_rfl) (by kernel_rfl) (fun _ _ _ h => h) (Or.inl ⟨by rfl, ?_⟩) (by assumption) ?_
            · (intro w0 hSw; (try dsimp only at hSw); obtain ⟨g0, g1, g2⟩ := hSw; go_simp)
            (try simp only [Act.put, List.getElem_toArray, List.getElem_cons_succ, List.getElem_cons_zero, List.setIfInBounds_toArray, List.set_cons_zero, List.set_cons_succ])
            refine wpAnyH_take (i := 36) (v := .slice (some ⟨g, 0, none⟩) xl vC) rfl (by kernel_rfl) (by kernel_rfl) (by kernel_rfl) (fun _ _ _ h => h) (Or.inl ⟨by rfl, ?_⟩) (by assumption) ?_
            · (intro w0 hSw; (try dsimp only at hSw); obtain ⟨g0, g1, g2⟩ := hSw; go_simp)
            (try simp only [Act.put, List.getElem_toArray, List.getElem_cons_succ, List.getElem_cons_zero, List.setIfInBounds_toArray, List.set_cons_zero, List.set_cons_succ])
            refine wpAnyH_take (i := 37) (v := .int .i64 (xl : Int)) rfl (by kernel_rfl) (by kernel_rfl) (by kernel_rfl) (fun _ _ _ h => h) (Or.inl ⟨by rfl, ?_⟩) (by assumption) ?_
            · (intro w0 hSw; (try dsimp only at hSw); obtain ⟨g0, g1, g2⟩ := hSw; go_simp)
            (try simp only [Act.put, List.getElem_toArray, List.getElem_cons_succ, List.getElem_cons_zero, List.setIfInBounds_toArray, List.set_cons_zero, List.set_cons_succ])
            refine wpAnyH_take (i := 38) (v := .pointer (some ⟨g, xl, none⟩)) rfl (by kernel_rfl) (by kernel_rfl) (by kernel_rfl) (fun _ _ _ h => h) (Or.inl ⟨by rfl, ?_⟩) (by assumption) ?_
            · (intro w0 hSw; (try dsimp only at hSw); obtain ⟨g0, g1, g2⟩ := hSw; go_simp)
            (try simp only [Act.put, List.getElem_toArray, List.getElem_cons_succ, List.getElem_cons_zero, List.setIfInBounds_toArray, List.set_cons_zero, List.set_cons_succ])
            refine wpAnyH_take (i := 39) (v := .int .u8 71) rfl (by kernel_rfl) (by kernel_rfl) (by kernel_rfl) (fun _ _ _ h => h) (Or.inl ⟨by rfl, ?_⟩) (by assumption) ?_
            · (intro w0 hSw; (try dsimp only at hSw); obtain ⟨g0, g1, g2⟩ := hSw; go_simp)
            (try simp only [Act.put, List.getElem_toArray, List.getElem_cons_succ, List.getElem_cons_zero, List.setIfInBounds_toArray, List.set_cons_zero, List.set_cons_succ])
            refine wpAnyH_take (i := 40) (v := .bool false) rfl (by kernel_rfl) (by kernel_rfl) (by kernel_rfl) (fun _ _ _ h => h) (Or.inl ⟨by rfl, ?_⟩) (by assumption) ?_
            · (intro w0 hSw; (try dsimp only at hSw); obtain ⟨g0, g1, g2⟩ := hSw; go_simp)
            (try simp only [Act.put, List.getElem_toArray, List.getElem_cons_succ, List.getElem_cons_zero, List.setIfInBounds_toArray, List.set_cons_zero, List.set_cons_succ])
            refine wpAnyH_take (i := 41) (v := .bool false) rfl (by kernel_rfl) (by kernel_rfl) (by kernel_rfl) (fun _ _ _ h => h) (Or.inl ⟨by rfl, ?_⟩) (by assumption) ?_
            · (intro w0 hSw; (try dsimp only at hSw); obtain ⟨g0, g1, g2⟩ := hSw; go_simp)
            (try simp only [Act.put, List.getElem_toArray, List.getElem_cons_succ, List.getElem_cons_zero, List.setIfInBounds_toArray, List.set_cons_zero, List.set_cons_succ])
            refine wpAnyH_done (by kernel_rfl) ?_ _
            clear hHeld z1 z2 z3 z4 z5 CB CL CK DS HA HB
            replace TW := hid (TW.out.mono (E' := fun q => q = QR) (fun q hq => .inl hq))
            clear X PR
            go_wp2_with fail
            refine ⟨⟨j + 1, by omega, by go_num, bs, ls, na, nc, sb, sd, la, lc, now, safe, lo, TW, RX, RL, by omega⟩, ?_⟩
            simp [intOf]
            try omega
    · have kb : ¬ (j : Int) < (sn : Int) := by omega
      clear hlt
      go_wp2_with fail
      go_ret
      exact ⟨rfl, TW.out.bel⟩
set_option maxRecDepth 100000 in
set_option maxHeartbeats 16000000 in
theorem bad (n0 : Int) (sa : Option Addr) (sn sc : Nat) (w : World) (h : n0 < 1 ∨ 65536 < n0) :
    Calls Try.prog 3 #[.int .i64 n0, .slice sa sn sc] w fun e w' => e = .returned (.bool true) ∧ Below w.heap.size w w' := by
  have AW := hid (awake14_any w)
  have C := hid (fun W => new_bad n0 W h)
  have CR := hid (fun W => rnew_bad n0 W h)
  go_enter Try.func3, Try.ntmps3
  go_wp2_with fail
  with_reducible refine AW.out.mono ?_
  rintro e W0 ⟨rfl, b1⟩
  have B := hid b1
  clear AW b1
  have C1 := hid (C.out W0)
  have C2 := hid (CR.out W0)
  clear C CR
  go_upto_region 5 with fail
  all_goals (
    go_wp2_with fail
    with_reducible refine C1.out.mono ?_
    rintro e W1 ⟨rfl, rfl⟩
    go_wp2_with fail
    with_reducible refine C2.out.mono ?_
    rintro e W2 ⟨rfl, b2⟩
    have B2 := hid (B.out.trans (b2.mono B.out.size))
    go_upto_region 7 with (first | refine wpList_store_row rfl 31 (.tmp 7) (.tmp 35) rfl W2.heap.size #[.slice none 0 0, .slice none 0 0, .slice none 0 0] rfl rfl 31 _ (heap_alloc_new W2 _) sizeRdk rfl (by simp [Value.oneCell']) ?_)
    have B3 := hid (B2.out.alloc B2.out.size (.cells #[.slice none 0 0, .slice none 0 0, .slice none 0 0] 31))
    by_cases c1 : 200 < sn
    · have t1 : 200 < (sn : Int) := by omega
      clear c1 C1 C2
      go_wp2_with fail
      go_ret
      exact ⟨rfl, setRow_below B3.out B2.out.size⟩
    · have t1 : ¬ 200 < (sn : Int) := by omega
      clear c1 C1 C2
      go_wp2_with fail
      go_ret
      exact ⟨rfl, setRow_below B3.out B2.out.size⟩)

theorem walk (n : Int) (sa : Option Addr) (sn sc : Nat) (os : List Opp) (w : World) (hn : I64 n) (hs : HoldsO w sa sn sc os) (hs2 : ∀ q ∈ os, I64 q.n) (hs3 : ∀ q ∈ os, q.sc * 1 ≤ 140737488351232) :
    Calls Try.prog 3 #[.int .i64 n, .slice sa sn sc] w fun e w' => e = .returned (.bool true) ∧ Below w.heap.size w w' := by
  by_cases h1 : n < 1 ∨ 65536 < n
  · exact bad n sa sn sc w h1
  · by_cases h2 : n ≤ 2000
    · exact good n.toNat n sa sn sc os w hs hs2 hs3 (by omega) (by omega) (.inl (by omega))
    · exact good 2000 n sa sn sc os w hs hs2 hs3 (by omega) (by omega) (.inr (by omega))

theorem own : ownKnob Try.prog.godebug = none := by kernel_rfl
theorem laidOut : laidOutB Try.prog = true := by kernel_rfl

set_option maxRecDepth 100000 in
theorem lifted (os : Os) (started : os.Started) (H : Type) (enc : TypeId × Value → H) :
    ReturnsInHanded {} Try.checked os 3 .any (Rows.diskScriptsSpec.pre6 enc Try.prog Try.f3 Rows.diskScriptsRow.domain false) (Rows.diskScriptsSpec.post enc Try.prog Try.f3 false true false false) := by
  refine returnsInHanded_of_change_sized (C := Try.checked) own started (by kernel_rfl) Try.func3
    (ChangeSpec.witness6 (enc := enc) (C := Try.checked) false ⟨#[], #[.int .i64 0, .slice none 0 0], []⟩ 8 (by kernel_rfl) (by kernel_rfl) (by kernel_rfl) (by kernel_rfl)) ?_
  intro W base args ds gs before hval0 hW hcnd hsz0 _
  have hsz : (DataW.weightsEach Try.prog (Try.f3.params.toList ++ Rows.diskScriptsSpec.plain.varTypes Try.prog) (ds ++ gs)).all (· ≤ reachBytes) = true := hsz0
  have hval : ∀ (j : Nat) t v, Try.f3.params[j]? = some t → args[j]? = some v → Value.okWide Try.prog W .any base t v := hval0
  have hW' := hW
  obtain ⟨p, q, hA0, hV, rfl, hfz, hnd⟩ := hW
  have hA : DataW.TrodAll enc Try.prog W 0 (fun _ => true) true Try.f3.params.toList args.toList ds p := hA0
  rw [Try.params3] at hA hval hsz
  obtain ⟨v0, vs0, d0, ds0, p0, q0, hargs, rfl, rfl, h0, r0⟩ := trodAll_cons hA
  obtain ⟨v1, vs1, d1, ds1, p1, q1, rfl, rfl, rfl, h1, r1⟩ := trodAll_cons r0
  obtain ⟨rfl, rfl, rfl⟩ := trodAll_nil r1
  obtain rfl : args = #[v0, v1] := by cases args; simp_all
  obtain ⟨rfl, rfl⟩ := trodVars_none hV
  have lt0 : ∀ x ∈ p0, x.block < W.heap.size := by obtain ⟨m, hm⟩ := h0; exact DataW.trod_lt m _ _ _ hm
  have lt1 : ∀ x ∈ p1, x.block < W.heap.size := by obtain ⟨m, hm⟩ := h1; exact DataW.trod_lt m _ _ _ hm
  obtain ⟨a0, rfl, w0⟩ := val_i64 Try.underlying3 (hval 0 3 v0 rfl rfl) h0
  obtain ⟨a1, len1, cap1, rfl⟩ := okWide_slice Try.underlying22 (hval 1 22 v1 rfl rfl)
  obtain ⟨z1, w1, k1, nest1⟩ := val_rowOS Try.underlying22 h1
  have n1 : ∀ q ∈ z1, q.sc * 1 ≤ 140737488351232 := nest1 (by rw [List.all_eq_true]; intro n hn; exact (List.all_eq_true.1 hsz) n (DataW.weights_mem_each (j := 1) rfl rfl n hn))
  clear hA0 hval0
  refine (walk a0 a1 len1 cap1 z1 W w0 w1 k1 n1).mono fun e W' ⟨he, bel⟩ => ?_
  subst he
  exact ⟨_, rfl, _, _, _, [], _, [], hW', trodAll_mk1 (shut_bool Try.underlying4 _), (trodAll_cons_mk (Below.trod laidOut (by kernel_rfl) (of_decide_eq_true (by kernel_rfl)) h0 bel lt0) (trodAll_cons_mk (Below.trod laidOut (by kernel_rfl) (of_decide_eq_true (by kernel_rfl)) h1 bel lt1) trodAll_mk0)), rfl, bel.frame _, fun h => by cases h⟩

theorem over : Rows.diskScriptsRow.holds Try.pinned (OpenSpec.ofChange Rows.diskScriptsSpec) :=
  OpenClaim.holds_of_wide 3 Try.f3 rfl rfl rfl rfl rfl rfl rfl ⟨rfl, rfl, rfl, rfl, rfl⟩ rfl rfl rfl rfl rfl (by kernel_rfl) Try.func3 (by kernel_rfl)
    (of_decide_eq_true (by kernel_rfl)) (by unfold Func.isWrapper; first | (rw [if_pos (by decide +kernel)]; kernel_rfl) | (rw [if_neg (by decide +kernel)]; exact ⟨rfl, rfl⟩))
    (fun os started H enc _ => lifted os started H enc)

theorem proved : Rows.DiskScriptsSaid := over
#print axioms proved
end Go.Proofs.Ytpkifcoichjnbaa.diskScripts
