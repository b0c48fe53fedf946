/- VictimGuards: for every list of queues, every list of leases and every list of needs the law answers true, and its arguments read as they did. No further conditions. -/
import Derived.Test.YtdbkjcnanffibaaMD
import Derived.Test.YtdbkjcnanffibaaQV
import Derived.Deep.CutRange
namespace Go.Proofs.Ytdbkjcnanffibaa.victimGuards
open Go.ChangeShapes Go.WideShapes Go.ChangeAt Go.RowKit Go.Deep Go.Maps Go.Shelf
set_option linter.unusedVariables false
set_option linter.unusedSimpArgs false

/-- The leases with one more, in memory. -/
def MoreR (w0 w : World) (ln : Nat) (ls : List Le) (q m : Int) (v : Value) : Prop := ∃ sa : Option Addr, OwnE 38 8 Le.cs w0.heap.size w v (ln + 1) (ls ++ [⟨0, q, 0, sa, 0, 0, m, 0, 0, false, []⟩]) ∧ Below w0.heap.size w0 w
theorem more_holds {w0 w : World} {ln : Nat} {ls : List Le} {q m : Int} {v : Value} (h : MoreR w0 w ln ls q m v) (hc : ∀ x ∈ ls, HoldsN w x.sa x.sl x.sc x.co) : ∃ sa a cap, v = .slice a (ln + 1) cap ∧ HoldsL w a (ln + 1) cap (mor ls q m sa) ∧ Below w0.heap.size w0 w := by
  obtain ⟨sa, ho, hb⟩ := h
  obtain ⟨a, cap, rfl⟩ := ho.form
  refine ⟨sa, a, cap, rfl, ⟨ho.holds Le.cs_len, fun x hx => ?_⟩, hb⟩
  rcases List.mem_append.1 hx with hx | hx
  · exact hc x hx
  · rw [List.mem_singleton.1 hx]
    exact ⟨rfl, Nat.le_refl _, (show (0 : Nat) ≤ _ from Nat.zero_le _), fun _ => ⟨rfl, rfl⟩, fun h => absurd h (Nat.lt_irrefl 0)⟩

set_option maxRecDepth 100000 in
set_option maxHeartbeats 16000000 in
theorem walk (a : Option Addr) (len cap : Nat) (l : List Qu) (b : Option Addr) (ln cp : Nat) (ls : List Le) (ub : Option Addr) (n uc : Nat) (nd : List Us) (w : World) (h : HoldsQ w a len cap l) (hok : ∀ q ∈ l, q.ok) (s0 : cap * 56 ≤ 140737488351232) (hl : HoldsL w b ln cp ls) (hlk : ∀ x ∈ ls, x.ok) (hlo : ∀ x ∈ ls, x.okB) (s1 : cp * 80 ≤ 140737488351232) (n1 : ∀ q ∈ ls, q.sc * 8 ≤ 140737488351232) (hu : HoldsU w ub n uc nd) (huk : ∀ u ∈ nd, u.ok) (s2 : uc * 24 ≤ 140737488351232) :
    Calls Try.prog 5 #[.slice a len cap, .slice b ln cp, .slice ub n uc] w fun e w' => e = .returned (.bool true) ∧ Below w.heap.size w w' := by
  have hcp := hl.1.2.1
  have huc := hu.2.1
  have ucm := hu.2.2.1
  have CH := hid (fun W (hW : Below w.heap.size w W) => ustarved_any a len cap l b ln cp ls ub n uc nd W (h.below hW) hok (hl.below hW) hlo (by omega) (hu.below hW) huk (by omega))
  have HU := hid hu
  have HN := hid hu.1
  have HLN := hid hl.1.1
  have HQL := hid h.1
  have lcap := h.2.1
  have lcm := h.2.2.1
  have SE0 := hid (fun (hz : starvE l ls nd = 0) => (show readE l ls = 0 ∧ ndE l nd nd.length = 0 from by
    unfold starvE at hz
    by_cases e : readE l ls = 0
    · rw [if_pos e] at hz; exact ⟨e, hz⟩
    · rw [if_neg e] at hz; exact absurd hz e))
  have NOL := hid (fun (hz : starvE l ls nd ≠ 0) => starvL_no hz)
  have HAS := hid (fun (hz : starvE l ls nd = 0) k (hk : k < nd.length) => st_has hz hk)
  have UOK := hid huk
  have LOK := hid hlo
  have HQ := hid (fun W (hW : Below w.heap.size w W) => h.below hW)
  have AT := hid (fun id W (hW : Below w.heap.size w W) => rat_any a len cap l id W (h.below hW))
  have HLS0 := hid (fun W (hW : Below w.heap.size w W) => hl.1.below hW)
  have HCO := hid (fun W (hW : Below w.heap.size w W) x (hx : x ∈ ls) => (hl.2 x hx).below hW)
  have US := hid (fun W q m sa aa cc (hq : I64 q) (hm : HoldsL W aa (ln + 1) cc (mor ls q m sa)) => uuses_any aa (ln + 1) cc (mor ls q m sa) W hm (mor_okB hlo hq) (by omega))
  have SU := hid (fun W vb m c us (hW : Below w.heap.size w W) (hus : HoldsU W vb m c us) (hq : ∀ u ∈ us, I64 u.qu) => qsums_any a len cap l vb m c us W (h.below hW) hok hus hq)
  have MOK := hid (fun q m sa (hq : I64 q) => mor_okB (m := m) (sa := sa) hlo hq)
  have GEQ := hid (fun (u : Us) sa (hR : readE l ls = 0) (hq : I64 u.qu) (hz : useE l u = 0) (hU : useErr (mor ls u.qu u.um sa) = 0) (hS : sumsE l (updU u.qu u.uc (uvL (mor ls u.qu u.um sa))) = 0) => guards_eq hlo hR hq hz hU hS)
  have hsl : (starvL l ls nd).length ≤ n := by
    unfold starvL
    split
    · rw [← hu.1]; exact stT_len _
    · simp
  clear h hok hl hlk hlo n1 hu huk
  go_enter Try.func5, Try.ntmps5
  go_wp2_with fail
  refine (awake8_any _).mono ?_
  rintro e w1 ⟨rfl, b1⟩
  have B1 := hid b1
  clear b1
  go_wp2_with fail
  with_reducible refine (CH.out _ B1.out).mono ?_
  rintro e w2 ⟨v2, rfl, o2, b2⟩
  have B2 := hid (B1.out.trans (b2.mono B1.out.size))
  by_cases e1 : starvE l ls nd = 0
  case neg =>
    have en := NOL.out e1
    rw [en] at o2
    obtain ⟨aa, ac, rfl⟩ := o2.form
    have t : (starvE l ls nd != 0) = true := by simpa using e1
    clear SE0 NOL HAS e1 en o2 b2 CH GEQ
    generalize starvE l ls nd = SE at *
    go_wp2_with fail
    go_ret
    exact ⟨rfl, B2.out⟩
  obtain ⟨hR, hN⟩ := SE0.out e1
  have HR := hid hR
  have EACH := hid (fun k (hk : k < nd.length) => ndE_each hN hk)
  have HA := hid (HAS.out e1)
  rw [e1]
  obtain ⟨aa, ac, rfl⟩ := o2.form
  have H2 := hid (o2.holds encN_len)
  clear SE0 NOL HAS e1 hR hN o2 b2 CH
  generalize starvL l ls nd = SL at *
  go_wp2_with fail
  go_loopw [33] (fun i wr => ∃ k : Nat, k ≤ n ∧ i = .int .i64 (k : Int) ∧ Hid (Below w2.heap.size w2 wr)) (fun i _ => n - (intOf i).toNat)
  case atStart => exact ⟨0, by omega, rfl, Below.refl _ _⟩
  case round =>
    obtain ⟨k, hk, rfl, hB⟩ := hrel
    by_cases hlt : k < n
    · have hlt' : k < nd.length := by rw [HN.out]; exact hlt
      obtain ⟨ub, uo, rfl, RU⟩ := HU.out.rowU (by omega)
      have BW := hid (B2.out.trans (hB.out.mono B2.out.size))
      obtain ⟨r0, r1, r2⟩ := RU k hlt
      have c0 := keepc BW.out r0
      have c1 := keepc BW.out r1
      have c2 := keepc BW.out r2
      have okq := (UOK.out _ (ua_mem hlt')).1
      have hz := EACH.out k hlt'
      have HB_ := hid (HA.out k hlt')
      obtain ⟨z1, z2, z3, z4⟩ := useE_zero hz
      have hp : pl l (ua nd k).qu < l.length := of_decide_eq_true z1
      have ka : (0 : Int) ≤ (k : Int) := by omega
      have kb : (k : Int) < (n : Int) := by omega
      have GE_ := hid (fun sa => GEQ.out (ua nd k) sa HR.out okq hz)
      have ATK := hid (fun W (hW : Below w.heap.size w W) => AT.out (ua nd k).qu W hW)
      have t : plI l (ua nd k).qu = (pl l (ua nd k).qu : Int) := by unfold plI; rw [if_pos hp]
      rw [t] at ATK
      clear r0 r1 r2 RU t z1 z2 hz
      generalize hx : ua nd k = x at *
      clear hx
      obtain ⟨u1, u2, u3⟩ := x
      simp only at c0 c1 c2 okq HB_ GE_ ATK z3 z4 hp
      generalize hPP : pl l u1 = P at *
      have HPP := hid hPP
      clear hPP
      have BA := hid (hB.out.alloc hB.out.size (.cells #[.int .i64 u1, .int .i64 u2, .int .i64 u3] 45))
      have BAW := hid (B2.out.trans (BA.out.mono B2.out.size))
      have y0 : (wr.alloc (.cells #[.int .i64 u1, .int .i64 u2, .int .i64 u3] 45)).cell? ⟨wr.heap.size, 0, none⟩ = some (.int .i64 u1) := by simp [go_sem]
      have y1 : (wr.alloc (.cells #[.int .i64 u1, .int .i64 u2, .int .i64 u3] 45)).cell? ⟨wr.heap.size, 1, none⟩ = some (.int .i64 u2) := by simp [go_sem]
      have y2 : (wr.alloc (.cells #[.int .i64 u1, .int .i64 u2, .int .i64 u3] 45)).cell? ⟨wr.heap.size, 2, none⟩ = some (.int .i64 u3) := by simp [go_sem]
      go_wp2_with fail
      clear c0 c1 c2
      generalize (wr.alloc (.cells #[.int .i64 u1, .int .i64 u2, .int .i64 u3] 45)) = w5 at *
      generalize wr.heap.size = QK at *
      with_reducible refine (ATK.out _ BAW.out).mono ?_
      rintro e w6 ⟨rfl, b6⟩
      have B6 := hid (BA.out.trans (b6.mono BA.out.size))
      have B6W := hid (BAW.out.trans (b6.mono BAW.out.size))
      replace y0 := keepc b6 y0
      replace y1 := keepc b6 y1
      replace y2 := keepc b6 y2
      clear b6 ATK
      go_upto_region 10 with fail
      have TUP := hid (fun W (hW : Below w6.heap.size w6 W) => And.intro (keepc hW y0) (keepc hW y2))
      have HLS := hid (fun W (hW : Below w6.heap.size w6 W) => HLS0.out W (B6W.out.trans (hW.mono B6W.out.size)))
      have Bwg0 := hid (Below.drew (Below.refl w6.heap.size w6))
      go_cut [12] from 41 to 116 (fun v wx => MoreR w6 wx ln ls u1 u3 v)
      case first =>
        refine wp_region_held_drew (S := fun w' => w'.cell? ⟨QK, 0, none⟩ = some (.int .i64 u1) ∧ w'.cell? ⟨QK, 2, none⟩ = some (.int .i64 u3)) (by kernel_rfl) (TUP.out _ Bwg0.out) (fun hHeld => ?_)
        refine wpAnyH_take (i := 1) (v := .slice b ln cp) rfl (by kernel_rfl) (by kernel_rfl) (by kernel_rfl) (fun _ _ _ h => h) (Or.inl ⟨by rfl, ?_⟩) (by assumption) ?_
        · (intro w hSw; (try dsimp only at hSw); go_simp)
        (try simp only [Act.put, List.getElem_toArray, List.getElem_cons_succ, List.getElem_cons_zero, List.setIfInBounds_toArray, List.set_cons_zero, List.set_cons_succ])
        refine wpAnyH_take (i := 3) (v := .pointer (some ⟨QK, 0, none⟩)) rfl (by kernel_rfl) (by kernel_rfl) (by kernel_rfl) (fun _ _ _ h => h) (Or.inl ⟨by rfl, ?_⟩) (by assumption) ?_
        · (intro w hSw; (try dsimp only at hSw); go_simp)
        (try simp only [Act.put, List.getElem_toArray, List.getElem_cons_succ, List.getElem_cons_zero, List.setIfInBounds_toArray, List.set_cons_zero, List.set_cons_succ])
        refine wpAnyH_take (i := 4) (v := .int .i64 u1) rfl (by kernel_rfl) (by kernel_rfl) (by kernel_rfl) (fun _ _ _ h => h) (Or.inl ⟨by rfl, ?_⟩) (by assumption) ?_
        · (intro w hSw; (try dsimp only at hSw); go_simp)
        (try simp only [Act.put, List.getElem_toArray, List.getElem_cons_succ, List.getElem_cons_zero, List.setIfInBounds_toArray, List.set_cons_zero, List.set_cons_succ])
        refine wpAnyH_take (i := 6) (v := .pointer (some ⟨QK, 1, none⟩)) rfl (by kernel_rfl) (by kernel_rfl) (by kernel_rfl) (fun _ _ _ h => h) (Or.inl ⟨by rfl, ?_⟩) (by assumption) ?_
        · (intro w hSw; (try dsimp only at hSw); go_simp)
        (try simp only [Act.put, List.getElem_toArray, List.getElem_cons_succ, List.getElem_cons_zero, List.setIfInBounds_toArray, List.set_cons_zero, List.set_cons_succ])
        refine wpAnyH_take (i := 7) (v := .pointer (some ⟨QK, 2, none⟩)) rfl (by kernel_rfl) (by kernel_rfl) (by kernel_rfl) (fun _ _ _ h => h) (Or.inl ⟨by rfl, ?_⟩) (by assumption) ?_
        · (intro w hSw; (try dsimp only at hSw); go_simp)
        (try simp only [Act.put, List.getElem_toArray, List.getElem_cons_succ, List.getElem_cons_zero, List.setIfInBounds_toArray, List.set_cons_zero, List.set_cons_succ])
        refine wpAnyH_take (i := 8) (v := .int .i64 u3) rfl (by kernel_rfl) (by kernel_rfl) (by kernel_rfl) (fun _ _ _ h => h) (Or.inl ⟨by rfl, ?_⟩) (by assumption) ?_
        · (intro w hSw; (try dsimp only at hSw); go_simp)
        (try simp only [Act.put, List.getElem_toArray, List.getElem_cons_succ, List.getElem_cons_zero, List.setIfInBounds_toArray, List.set_cons_zero, List.set_cons_succ])
        generalize w6.drew = wg0 at *
        refine wpAnyH_ready (rs := [0, 5]) (by kernel_rfl) (by simp) ?_
        refine AllReadyH.cons rfl (fun K hK => ?_) ?_
        · skip
          go_simp
          have Bwg1 := hid (Bwg0.out.alloc Bwg0.out.size (.cells #[] 38))
          have Owg1 : Hid (OwnE 38 8 Le.cs w6.heap.size (wg0.alloc (.cells #[] 38)) (.slice (some ⟨wg0.heap.size, 0, none⟩) 0 0) 0 []) := (OwnE.lit 38 8 Le.cs wg0).weaken Bwg0.out.size
          generalize (wg0.alloc (.cells #[] 38)) = wg1 at *
          generalize wg0.heap.size = A1 at *
          refine hK.out _ _ (TUP.out _ Bwg1.out) (fun hHeld => ?_)
          clear hK K
          (try simp only [Act.put, List.getElem_toArray, List.getElem_cons_succ, List.getElem_cons_zero, List.setIfInBounds_toArray, List.set_cons_zero, List.set_cons_succ])
          refine wpAnyH_ready (rs := [2, 5]) (by kernel_rfl) (by simp) ?_
          refine AllReadyH.cons rfl (fun K hK => ?_) ?_
          · skip
            refine appE_step 22 38 _ 80 Le.cs_len Le.one Try.underlying22 infoLe rfl (by decide) wg1 rfl (.tmp 41) (.tmp 42) rfl w6.heap.size 0 (.slice (some ⟨A1, 0, none⟩) 0 0) [] rfl Owg1.out Bwg1.out.size b ln cp ls rfl (HLS.out wg1 Bwg1.out) (by omega) (by omega) ?_
            intro v2 wg2 h1 h2 h3
            have Bwg2 := hid (Bwg1.out.trans h2)
            have Owg2 : Hid (OwnE 38 8 Le.cs w6.heap.size wg2 v2 ln ls) := by have := h1; rw [Nat.zero_add, List.nil_append] at this; exact this
            clear h1 h2 h3
            refine hK.out _ _ (TUP.out _ Bwg2.out) (fun hHeld => ?_)
            clear hK K
            (try simp only [Act.put, List.getElem_toArray, List.getElem_cons_succ, List.getElem_cons_zero, List.setIfInBounds_toArray, List.set_cons_zero, List.set_cons_succ])
            refine wpAnyH_ready (rs := [5]) (by kernel_rfl) (by simp) ?_
            refine AllReadyH.cons rfl (fun K hK => ?_) AllReadyH.nil
            have hmk := make_none
            go_simp
            have Bwg3 := hid (Bwg2.out.alloc Bwg2.out.size (.cells #[] 3))
            have Owg3 := hid (Owg2.out.below ((Below.refl wg2.heap.size wg2).alloc (Nat.le_refl _) (.cells #[] 3)))
            clear hmk
            generalize (wg2.alloc (.cells #[] 3)) = wg3 at *
            generalize wg2.heap.size = Z3 at *
            refine hK.out _ _ (TUP.out _ Bwg3.out) (fun hHeld => ?_)
            clear hK K
            (try simp only [Act.put, List.getElem_toArray, List.getElem_cons_succ, List.getElem_cons_zero, List.setIfInBounds_toArray, List.set_cons_zero, List.set_cons_succ])
            refine wpAnyH_take (i := 9) (v := .agg #[.int .i64 0, .int .i64 u1, .int .i64 0, .slice (some ⟨Z3, 0, none⟩) 0 0, .int .i64 u3, .int .i64 0, .int .i64 0, .bool false]) rfl (by kernel_rfl) (by kernel_rfl) (by kernel_rfl) (fun _ _ _ h => h) (Or.inl ⟨by rfl, ?_⟩) (by assumption) ?_
            · (intro w hSw; (try dsimp only at hSw); go_simp)
            (try simp only [Act.put, List.getElem_toArray, List.getElem_cons_succ, List.getElem_cons_zero, List.setIfInBounds_toArray, List.set_cons_zero, List.set_cons_succ])
            refine wpAnyH_ready (rs := [10]) (by kernel_rfl) (by simp) ?_
            refine AllReadyH.cons rfl (fun K hK => ?_) AllReadyH.nil
            go_simp
            have Bwg4 := hid (Bwg3.out.alloc Bwg3.out.size (.cells #[.int .i64 0, .int .i64 u1, .int .i64 0, .slice (some ⟨Z3, 0, none⟩) 0 0, .int .i64 u3, .int .i64 0, .int .i64 0, .bool false] 38))
            have Owg4 := hid (Owg3.out.below ((Below.refl wg3.heap.size wg3).alloc (Nat.le_refl _) (.cells #[.int .i64 0, .int .i64 u1, .int .i64 0, .slice (some ⟨Z3, 0, none⟩) 0 0, .int .i64 u3, .int .i64 0, .int .i64 0, .bool false] 38)))
            have Xwg4 : Hid ((wg3.alloc (.cells #[.int .i64 0, .int .i64 u1, .int .i64 0, .slice (some ⟨Z3, 0, none⟩) 0 0, .int .i64 u3, .int .i64 0, .int .i64 0, .bool false] 38)).heap[wg3.heap.size]? = some (.cells #[.int .i64 0, .int .i64 u1, .int .i64 0, .slice (some ⟨Z3, 0, none⟩) 0 0, .int .i64 u3, .int .i64 0, .int .i64 0, .bool false] 38)) := heap_alloc_new _ _
            generalize (wg3.alloc (.cells #[.int .i64 0, .int .i64 u1, .int .i64 0, .slice (some ⟨Z3, 0, none⟩) 0 0, .int .i64 u3, .int .i64 0, .int .i64 0, .bool false] 38)) = wg4 at *
            generalize wg3.heap.size = X4 at *
            refine hK.out _ _ (TUP.out _ Bwg4.out) (fun hHeld => ?_)
            clear hK K
            (try simp only [Act.put, List.getElem_toArray, List.getElem_cons_succ, List.getElem_cons_zero, List.setIfInBounds_toArray, List.set_cons_zero, List.set_cons_succ])
            refine wpAnyH_ready (rs := [11]) (by kernel_rfl) (by simp) ?_
            refine AllReadyH.cons rfl (fun K hK => ?_) AllReadyH.nil
            refine appE_step 22 38 _ 80 Le.cs_len Le.one Try.underlying22 infoLe rfl (by decide) wg4 rfl (.tmp 43) (.tmp 51) rfl w6.heap.size ln v2 ls rfl Owg4.out Bwg4.out.size (some ⟨X4, 0, none⟩) 1 1 [⟨0, u1, 0, some ⟨Z3, 0, none⟩, 0, 0, u3, 0, 0, false, []⟩] rfl (holds8 (l := [(⟨0, u1, 0, some ⟨Z3, 0, none⟩, 0, 0, u3, 0, 0, false, []⟩ : Le)]) Le.cs_len Xwg4.out rfl (by simp)) (by omega) (by omega) ?_
            intro v5 wg5 h1 h2 h3
            have Bwg5 := hid (Bwg4.out.trans h2)
            have Owg5 := hid h1
            clear h1 h2 h3
            refine hK.out _ _ (TUP.out _ Bwg5.out) (fun hHeld => ?_)
            clear hK K
            (try simp only [Act.put, List.getElem_toArray, List.getElem_cons_succ, List.getElem_cons_zero, List.setIfInBounds_toArray, List.set_cons_zero, List.set_cons_succ])
            refine wpAnyH_take (i := 12) (v := v5) rfl (by kernel_rfl) (by kernel_rfl) (by kernel_rfl) (fun _ _ _ h => h) (Or.inl ⟨by rfl, ?_⟩) (by assumption) ?_
            · (intro w hSw; (try dsimp only at hSw); go_simp)
            (try simp only [Act.put, List.getElem_toArray, List.getElem_cons_succ, List.getElem_cons_zero, List.setIfInBounds_toArray, List.set_cons_zero, List.set_cons_succ])
            refine wpAnyH_done (by kernel_rfl) ?_ _
            clear hHeld
            go_wp2_with fail
            go_meet
            exact ⟨_, Owg5.out, Bwg5.out⟩
          refine AllReadyH.cons rfl (fun K hK => ?_) AllReadyH.nil
          have hmk := make_none
          go_simp
          have Bwg6 := hid (Bwg1.out.alloc Bwg1.out.size (.cells #[] 3))
          have Owg6 := hid (Owg1.out.below ((Below.refl wg1.heap.size wg1).alloc (Nat.le_refl _) (.cells #[] 3)))
          clear hmk
          generalize (wg1.alloc (.cells #[] 3)) = wg6 at *
          generalize wg1.heap.size = Z6 at *
          refine hK.out _ _ (TUP.out _ Bwg6.out) (fun hHeld => ?_)
          clear hK K
          (try simp only [Act.put, List.getElem_toArray, List.getElem_cons_succ, List.getElem_cons_zero, List.setIfInBounds_toArray, List.set_cons_zero, List.set_cons_succ])
          refine wpAnyH_take (i := 9) (v := .agg #[.int .i64 0, .int .i64 u1, .int .i64 0, .slice (some ⟨Z6, 0, none⟩) 0 0, .int .i64 u3, .int .i64 0, .int .i64 0, .bool false]) rfl (by kernel_rfl) (by kernel_rfl) (by kernel_rfl) (fun _ _ _ h => h) (Or.inl ⟨by rfl, ?_⟩) (by assumption) ?_
          · (intro w hSw; (try dsimp only at hSw); go_simp)
          (try simp only [Act.put, List.getElem_toArray, List.getElem_cons_succ, List.getElem_cons_zero, List.setIfInBounds_toArray, List.set_cons_zero, List.set_cons_succ])
          refine wpAnyH_ready (rs := [2, 10]) (by kernel_rfl) (by simp) ?_
          refine AllReadyH.cons rfl (fun K hK => ?_) ?_
          · skip
            refine appE_step 22 38 _ 80 Le.cs_len Le.one Try.underlying22 infoLe rfl (by decide) wg6 rfl (.tmp 41) (.tmp 42) rfl w6.heap.size 0 (.slice (some ⟨A1, 0, none⟩) 0 0) [] rfl Owg6.out Bwg6.out.size b ln cp ls rfl (HLS.out wg6 Bwg6.out) (by omega) (by omega) ?_
            intro v7 wg7 h1 h2 h3
            have Bwg7 := hid (Bwg6.out.trans h2)
            have Owg7 : Hid (OwnE 38 8 Le.cs w6.heap.size wg7 v7 ln ls) := by have := h1; rw [Nat.zero_add, List.nil_append] at this; exact this
            clear h1 h2 h3
            refine hK.out _ _ (TUP.out _ Bwg7.out) (fun hHeld => ?_)
            clear hK K
            (try simp only [Act.put, List.getElem_toArray, List.getElem_cons_succ, List.getElem_cons_zero, List.setIfInBounds_toArray, List.set_cons_zero, List.set_cons_succ])
            refine wpAnyH_ready (rs := [10]) (by kernel_rfl) (by simp) ?_
            refine AllReadyH.cons rfl (fun K hK => ?_) AllReadyH.nil
            go_simp
            have Bwg8 := hid (Bwg7.out.alloc Bwg7.out.size (.cells #[.int .i64 0, .int .i64 u1, .int .i64 0, .slice (some ⟨Z6, 0, none⟩) 0 0, .int .i64 u3, .int .i64 0, .int .i64 0, .bool false] 38))
            have Owg8 := hid (Owg7.out.below ((Below.refl wg7.heap.size wg7).alloc (Nat.le_refl _) (.cells #[.int .i64 0, .int .i64 u1, .int .i64 0, .slice (some ⟨Z6, 0, none⟩) 0 0, .int .i64 u3, .int .i64 0, .int .i64 0, .bool false] 38)))
            have Xwg8 : Hid ((wg7.alloc (.cells #[.int .i64 0, .int .i64 u1, .int .i64 0, .slice (some ⟨Z6, 0, none⟩) 0 0, .int .i64 u3, .int .i64 0, .int .i64 0, .bool false] 38)).heap[wg7.heap.size]? = some (.cells #[.int .i64 0, .int .i64 u1, .int .i64 0, .slice (some ⟨Z6, 0, none⟩) 0 0, .int .i64 u3, .int .i64 0, .int .i64 0, .bool false] 38)) := heap_alloc_new _ _
            generalize (wg7.alloc (.cells #[.int .i64 0, .int .i64 u1, .int .i64 0, .slice (some ⟨Z6, 0, none⟩) 0 0, .int .i64 u3, .int .i64 0, .int .i64 0, .bool false] 38)) = wg8 at *
            generalize wg7.heap.size = X8 at *
            refine hK.out _ _ (TUP.out _ Bwg8.out) (fun hHeld => ?_)
            clear hK K
            (try simp only [Act.put, List.getElem_toArray, List.getElem_cons_succ, List.getElem_cons_zero, List.setIfInBounds_toArray, List.set_cons_zero, List.set_cons_succ])
            refine wpAnyH_ready (rs := [11]) (by kernel_rfl) (by simp) ?_
            refine AllReadyH.cons rfl (fun K hK => ?_) AllReadyH.nil
            refine appE_step 22 38 _ 80 Le.cs_len Le.one Try.underlying22 infoLe rfl (by decide) wg8 rfl (.tmp 43) (.tmp 51) rfl w6.heap.size ln v7 ls rfl Owg8.out Bwg8.out.size (some ⟨X8, 0, none⟩) 1 1 [⟨0, u1, 0, some ⟨Z6, 0, none⟩, 0, 0, u3, 0, 0, false, []⟩] rfl (holds8 (l := [(⟨0, u1, 0, some ⟨Z6, 0, none⟩, 0, 0, u3, 0, 0, false, []⟩ : Le)]) Le.cs_len Xwg8.out rfl (by simp)) (by omega) (by omega) ?_
            intro v9 wg9 h1 h2 h3
            have Bwg9 := hid (Bwg8.out.trans h2)
            have Owg9 := hid h1
            clear h1 h2 h3
            refine hK.out _ _ (TUP.out _ Bwg9.out) (fun hHeld => ?_)
            clear hK K
            (try simp only [Act.put, List.getElem_toArray, List.getElem_cons_succ, List.getElem_cons_zero, List.setIfInBounds_toArray, List.set_cons_zero, List.set_cons_succ])
            refine wpAnyH_take (i := 12) (v := v9) rfl (by kernel_rfl) (by kernel_rfl) (by kernel_rfl) (fun _ _ _ h => h) (Or.inl ⟨by rfl, ?_⟩) (by assumption) ?_
            · (intro w hSw; (try dsimp only at hSw); go_simp)
            (try simp only [Act.put, List.getElem_toArray, List.getElem_cons_succ, List.getElem_cons_zero, List.setIfInBounds_toArray, List.set_cons_zero, List.set_cons_succ])
            refine wpAnyH_done (by kernel_rfl) ?_ _
            clear hHeld
            go_wp2_with fail
            go_meet
            exact ⟨_, Owg9.out, Bwg9.out⟩
          refine AllReadyH.cons rfl (fun K hK => ?_) AllReadyH.nil
          go_simp
          have Bwg10 := hid (Bwg6.out.alloc Bwg6.out.size (.cells #[.int .i64 0, .int .i64 u1, .int .i64 0, .slice (some ⟨Z6, 0, none⟩) 0 0, .int .i64 u3, .int .i64 0, .int .i64 0, .bool false] 38))
          have Owg10 := hid (Owg6.out.below ((Below.refl wg6.heap.size wg6).alloc (Nat.le_refl _) (.cells #[.int .i64 0, .int .i64 u1, .int .i64 0, .slice (some ⟨Z6, 0, none⟩) 0 0, .int .i64 u3, .int .i64 0, .int .i64 0, .bool false] 38)))
          have Nwg10 : Hid (A1 ≠ wg6.heap.size) := Nat.ne_of_lt (Owg6.out.lt A1 rfl).2
          have Xwg10 : Hid ((wg6.alloc (.cells #[.int .i64 0, .int .i64 u1, .int .i64 0, .slice (some ⟨Z6, 0, none⟩) 0 0, .int .i64 u3, .int .i64 0, .int .i64 0, .bool false] 38)).heap[wg6.heap.size]? = some (.cells #[.int .i64 0, .int .i64 u1, .int .i64 0, .slice (some ⟨Z6, 0, none⟩) 0 0, .int .i64 u3, .int .i64 0, .int .i64 0, .bool false] 38)) := heap_alloc_new _ _
          generalize (wg6.alloc (.cells #[.int .i64 0, .int .i64 u1, .int .i64 0, .slice (some ⟨Z6, 0, none⟩) 0 0, .int .i64 u3, .int .i64 0, .int .i64 0, .bool false] 38)) = wg10 at *
          generalize wg6.heap.size = X10 at *
          refine hK.out _ _ (TUP.out _ Bwg10.out) (fun hHeld => ?_)
          clear hK K
          (try simp only [Act.put, List.getElem_toArray, List.getElem_cons_succ, List.getElem_cons_zero, List.setIfInBounds_toArray, List.set_cons_zero, List.set_cons_succ])
          refine wpAnyH_ready (rs := [2]) (by kernel_rfl) (by simp) ?_
          refine AllReadyH.cons rfl (fun K hK => ?_) AllReadyH.nil
          refine appE_step 22 38 _ 80 Le.cs_len Le.one Try.underlying22 infoLe rfl (by decide) wg10 rfl (.tmp 41) (.tmp 42) rfl w6.heap.size 0 (.slice (some ⟨A1, 0, none⟩) 0 0) [] rfl Owg10.out Bwg10.out.size b ln cp ls rfl (HLS.out wg10 Bwg10.out) (by omega) (by omega) ?_
          intro v11 wg11 h1 h2 h3
          have Bwg11 := hid (Bwg10.out.trans h2)
          have Owg11 : Hid (OwnE 38 8 Le.cs w6.heap.size wg11 v11 ln ls) := by have := h1; rw [Nat.zero_add, List.nil_append] at this; exact this
          have Xwg11 : Hid (wg11.heap[X10]? = some (.cells #[.int .i64 0, .int .i64 u1, .int .i64 0, .slice (some ⟨Z6, 0, none⟩) 0 0, .int .i64 u3, .int .i64 0, .int .i64 0, .bool false] 38)) := by unfold Hid; rw [h3.block X10 (Array.getElem?_eq_some_iff.1 Xwg10.out).1 (by simp [Value.ownBlock]; exact Ne.symm Nwg10.out)]; exact Xwg10.out
          clear h1 h2 h3
          refine hK.out _ _ (TUP.out _ Bwg11.out) (fun hHeld => ?_)
          clear hK K
          (try simp only [Act.put, List.getElem_toArray, List.getElem_cons_succ, List.getElem_cons_zero, List.setIfInBounds_toArray, List.set_cons_zero, List.set_cons_succ])
          refine wpAnyH_ready (rs := [11]) (by kernel_rfl) (by simp) ?_
          refine AllReadyH.cons rfl (fun K hK => ?_) AllReadyH.nil
          refine appE_step 22 38 _ 80 Le.cs_len Le.one Try.underlying22 infoLe rfl (by decide) wg11 rfl (.tmp 43) (.tmp 51) rfl w6.heap.size ln v11 ls rfl Owg11.out Bwg11.out.size (some ⟨X10, 0, none⟩) 1 1 [⟨0, u1, 0, some ⟨Z6, 0, none⟩, 0, 0, u3, 0, 0, false, []⟩] rfl (holds8 (l := [(⟨0, u1, 0, some ⟨Z6, 0, none⟩, 0, 0, u3, 0, 0, false, []⟩ : Le)]) Le.cs_len Xwg11.out rfl (by simp)) (by omega) (by omega) ?_
          intro v12 wg12 h1 h2 h3
          have Bwg12 := hid (Bwg11.out.trans h2)
          have Owg12 := hid h1
          clear h1 h2 h3
          refine hK.out _ _ (TUP.out _ Bwg12.out) (fun hHeld => ?_)
          clear hK K
          (try simp only [Act.put, List.getElem_toArray, List.getElem_cons_succ, List.getElem_cons_zero, List.setIfInBounds_toArray, List.set_cons_zero, List.set_cons_succ])
          refine wpAnyH_take (i := 12) (v := v12) rfl (by kernel_rfl) (by kernel_rfl) (by kernel_rfl) (fun _ _ _ h => h) (Or.inl ⟨by rfl, ?_⟩) (by assumption) ?_
          · (intro w hSw; (try dsimp only at hSw); go_simp)
          (try simp only [Act.put, List.getElem_toArray, List.getElem_cons_succ, List.getElem_cons_zero, List.setIfInBounds_toArray, List.set_cons_zero, List.set_cons_succ])
          refine wpAnyH_done (by kernel_rfl) ?_ _
          clear hHeld
          go_wp2_with fail
          go_meet
          exact ⟨_, Owg12.out, Bwg12.out⟩
        refine AllReadyH.cons rfl (fun K hK => ?_) AllReadyH.nil
        have hmk := make_none
        go_simp
        have Bwg13 := hid (Bwg0.out.alloc Bwg0.out.size (.cells #[] 3))
        clear hmk
        generalize (wg0.alloc (.cells #[] 3)) = wg13 at *
        generalize wg0.heap.size = Z13 at *
        refine hK.out _ _ (TUP.out _ Bwg13.out) (fun hHeld => ?_)
        clear hK K
        (try simp only [Act.put, List.getElem_toArray, List.getElem_cons_succ, List.getElem_cons_zero, List.setIfInBounds_toArray, List.set_cons_zero, List.set_cons_succ])
        refine wpAnyH_take (i := 9) (v := .agg #[.int .i64 0, .int .i64 u1, .int .i64 0, .slice (some ⟨Z13, 0, none⟩) 0 0, .int .i64 u3, .int .i64 0, .int .i64 0, .bool false]) rfl (by kernel_rfl) (by kernel_rfl) (by kernel_rfl) (fun _ _ _ h => h) (Or.inl ⟨by rfl, ?_⟩) (by assumption) ?_
        · (intro w hSw; (try dsimp only at hSw); go_simp)
        (try simp only [Act.put, List.getElem_toArray, List.getElem_cons_succ, List.getElem_cons_zero, List.setIfInBounds_toArray, List.set_cons_zero, List.set_cons_succ])
        refine wpAnyH_ready (rs := [0, 10]) (by kernel_rfl) (by simp) ?_
        refine AllReadyH.cons rfl (fun K hK => ?_) ?_
        · skip
          go_simp
          have Bwg14 := hid (Bwg13.out.alloc Bwg13.out.size (.cells #[] 38))
          have Owg14 : Hid (OwnE 38 8 Le.cs w6.heap.size (wg13.alloc (.cells #[] 38)) (.slice (some ⟨wg13.heap.size, 0, none⟩) 0 0) 0 []) := (OwnE.lit 38 8 Le.cs wg13).weaken Bwg13.out.size
          generalize (wg13.alloc (.cells #[] 38)) = wg14 at *
          generalize wg13.heap.size = A14 at *
          refine hK.out _ _ (TUP.out _ Bwg14.out) (fun hHeld => ?_)
          clear hK K
          (try simp only [Act.put, List.getElem_toArray, List.getElem_cons_succ, List.getElem_cons_zero, List.setIfInBounds_toArray, List.set_cons_zero, List.set_cons_succ])
          refine wpAnyH_ready (rs := [2, 10]) (by kernel_rfl) (by simp) ?_
          refine AllReadyH.cons rfl (fun K hK => ?_) ?_
          · skip
            refine appE_step 22 38 _ 80 Le.cs_len Le.one Try.underlying22 infoLe rfl (by decide) wg14 rfl (.tmp 41) (.tmp 42) rfl w6.heap.size 0 (.slice (some ⟨A14, 0, none⟩) 0 0) [] rfl Owg14.out Bwg14.out.size b ln cp ls rfl (HLS.out wg14 Bwg14.out) (by omega) (by omega) ?_
            intro v15 wg15 h1 h2 h3
            have Bwg15 := hid (Bwg14.out.trans h2)
            have Owg15 : Hid (OwnE 38 8 Le.cs w6.heap.size wg15 v15 ln ls) := by have := h1; rw [Nat.zero_add, List.nil_append] at this; exact this
            clear h1 h2 h3
            refine hK.out _ _ (TUP.out _ Bwg15.out) (fun hHeld => ?_)
            clear hK K
            (try simp only [Act.put, List.getElem_toArray, List.getElem_cons_succ, List.getElem_cons_zero, List.setIfInBounds_toArray, List.set_cons_zero, List.set_cons_succ])
            refine wpAnyH_ready (rs := [10]) (by kernel_rfl) (by simp) ?_
            refine AllReadyH.cons rfl (fun K hK => ?_) AllReadyH.nil
            go_simp
            have Bwg16 := hid (Bwg15.out.alloc Bwg15.out.size (.cells #[.int .i64 0, .int .i64 u1, .int .i64 0, .slice (some ⟨Z13, 0, none⟩) 0 0, .int .i64 u3, .int .i64 0, .int .i64 0, .bool false] 38))
            have Owg16 := hid (Owg15.out.below ((Below.refl wg15.heap.size wg15).alloc (Nat.le_refl _) (.cells #[.int .i64 0, .int .i64 u1, .int .i64 0, .slice (some ⟨Z13, 0, none⟩) 0 0, .int .i64 u3, .int .i64 0, .int .i64 0, .bool false] 38)))
            have Xwg16 : Hid ((wg15.alloc (.cells #[.int .i64 0, .int .i64 u1, .int .i64 0, .slice (some ⟨Z13, 0, none⟩) 0 0, .int .i64 u3, .int .i64 0, .int .i64 0, .bool false] 38)).heap[wg15.heap.size]? = some (.cells #[.int .i64 0, .int .i64 u1, .int .i64 0, .slice (some ⟨Z13, 0, none⟩) 0 0, .int .i64 u3, .int .i64 0, .int .i64 0, .bool false] 38)) := heap_alloc_new _ _
            generalize (wg15.alloc (.cells #[.int .i64 0, .int .i64 u1, .int .i64 0, .slice (some ⟨Z13, 0, none⟩) 0 0, .int .i64 u3, .int .i64 0, .int .i64 0, .bool false] 38)) = wg16 at *
            generalize wg15.heap.size = X16 at *
            refine hK.out _ _ (TUP.out _ Bwg16.out) (fun hHeld => ?_)
            clear hK K
            (try simp only [Act.put, List.getElem_toArray, List.getElem_cons_succ, List.getElem_cons_zero, List.setIfInBounds_toArray, List.set_cons_zero, List.set_cons_succ])
            refine wpAnyH_ready (rs := [11]) (by kernel_rfl) (by simp) ?_
            refine AllReadyH.cons rfl (fun K hK => ?_) AllReadyH.nil
            refine appE_step 22 38 _ 80 Le.cs_len Le.one Try.underlying22 infoLe rfl (by decide) wg16 rfl (.tmp 43) (.tmp 51) rfl w6.heap.size ln v15 ls rfl Owg16.out Bwg16.out.size (some ⟨X16, 0, none⟩) 1 1 [⟨0, u1, 0, some ⟨Z13, 0, none⟩, 0, 0, u3, 0, 0, false, []⟩] rfl (holds8 (l := [(⟨0, u1, 0, some ⟨Z13, 0, none⟩, 0, 0, u3, 0, 0, false, []⟩ : Le)]) Le.cs_len Xwg16.out rfl (by simp)) (by omega) (by omega) ?_
            intro v17 wg17 h1 h2 h3
            have Bwg17 := hid (Bwg16.out.trans h2)
            have Owg17 := hid h1
            clear h1 h2 h3
            refine hK.out _ _ (TUP.out _ Bwg17.out) (fun hHeld => ?_)
            clear hK K
            (try simp only [Act.put, List.getElem_toArray, List.getElem_cons_succ, List.getElem_cons_zero, List.setIfInBounds_toArray, List.set_cons_zero, List.set_cons_succ])
            refine wpAnyH_take (i := 12) (v := v17) rfl (by kernel_rfl) (by kernel_rfl) (by kernel_rfl) (fun _ _ _ h => h) (Or.inl ⟨by rfl, ?_⟩) (by assumption) ?_
            · (intro w hSw; (try dsimp only at hSw); go_simp)
            (try simp only [Act.put, List.getElem_toArray, List.getElem_cons_succ, List.getElem_cons_zero, List.setIfInBounds_toArray, List.set_cons_zero, List.set_cons_succ])
            refine wpAnyH_done (by kernel_rfl) ?_ _
            clear hHeld
            go_wp2_with fail
            go_meet
            exact ⟨_, Owg17.out, Bwg17.out⟩
          refine AllReadyH.cons rfl (fun K hK => ?_) AllReadyH.nil
          go_simp
          have Bwg18 := hid (Bwg14.out.alloc Bwg14.out.size (.cells #[.int .i64 0, .int .i64 u1, .int .i64 0, .slice (some ⟨Z13, 0, none⟩) 0 0, .int .i64 u3, .int .i64 0, .int .i64 0, .bool false] 38))
          have Owg18 := hid (Owg14.out.below ((Below.refl wg14.heap.size wg14).alloc (Nat.le_refl _) (.cells #[.int .i64 0, .int .i64 u1, .int .i64 0, .slice (some ⟨Z13, 0, none⟩) 0 0, .int .i64 u3, .int .i64 0, .int .i64 0, .bool false] 38)))
          have Nwg18 : Hid (A14 ≠ wg14.heap.size) := Nat.ne_of_lt (Owg14.out.lt A14 rfl).2
          have Xwg18 : Hid ((wg14.alloc (.cells #[.int .i64 0, .int .i64 u1, .int .i64 0, .slice (some ⟨Z13, 0, none⟩) 0 0, .int .i64 u3, .int .i64 0, .int .i64 0, .bool false] 38)).heap[wg14.heap.size]? = some (.cells #[.int .i64 0, .int .i64 u1, .int .i64 0, .slice (some ⟨Z13, 0, none⟩) 0 0, .int .i64 u3, .int .i64 0, .int .i64 0, .bool false] 38)) := heap_alloc_new _ _
          generalize (wg14.alloc (.cells #[.int .i64 0, .int .i64 u1, .int .i64 0, .slice (some ⟨Z13, 0, none⟩) 0 0, .int .i64 u3, .int .i64 0, .int .i64 0, .bool false] 38)) = wg18 at *
          generalize wg14.heap.size = X18 at *
          refine hK.out _ _ (TUP.out _ Bwg18.out) (fun hHeld => ?_)
          clear hK K
          (try simp only [Act.put, List.getElem_toArray, List.getElem_cons_succ, List.getElem_cons_zero, List.setIfInBounds_toArray, List.set_cons_zero, List.set_cons_succ])
          refine wpAnyH_ready (rs := [2]) (by kernel_rfl) (by simp) ?_
          refine AllReadyH.cons rfl (fun K hK => ?_) AllReadyH.nil
          refine appE_step 22 38 _ 80 Le.cs_len Le.one Try.underlying22 infoLe rfl (by decide) wg18 rfl (.tmp 41) (.tmp 42) rfl w6.heap.size 0 (.slice (some ⟨A14, 0, none⟩) 0 0) [] rfl Owg18.out Bwg18.out.size b ln cp ls rfl (HLS.out wg18 Bwg18.out) (by omega) (by omega) ?_
          intro v19 wg19 h1 h2 h3
          have Bwg19 := hid (Bwg18.out.trans h2)
          have Owg19 : Hid (OwnE 38 8 Le.cs w6.heap.size wg19 v19 ln ls) := by have := h1; rw [Nat.zero_add, List.nil_append] at this; exact this
          have Xwg19 : Hid (wg19.heap[X18]? = some (.cells #[.int .i64 0, .int .i64 u1, .int .i64 0, .slice (some ⟨Z13, 0, none⟩) 0 0, .int .i64 u3, .int .i64 0, .int .i64 0, .bool false] 38)) := by unfold Hid; rw [h3.block X18 (Array.getElem?_eq_some_iff.1 Xwg18.out).1 (by simp [Value.ownBlock]; exact Ne.symm Nwg18.out)]; exact Xwg18.out
          clear h1 h2 h3
          refine hK.out _ _ (TUP.out _ Bwg19.out) (fun hHeld => ?_)
          clear hK K
          (try simp only [Act.put, List.getElem_toArray, List.getElem_cons_succ, List.getElem_cons_zero, List.setIfInBounds_toArray, List.set_cons_zero, List.set_cons_succ])
          refine wpAnyH_ready (rs := [11]) (by kernel_rfl) (by simp) ?_
          refine AllReadyH.cons rfl (fun K hK => ?_) AllReadyH.nil
          refine appE_step 22 38 _ 80 Le.cs_len Le.one Try.underlying22 infoLe rfl (by decide) wg19 rfl (.tmp 43) (.tmp 51) rfl w6.heap.size ln v19 ls rfl Owg19.out Bwg19.out.size (some ⟨X18, 0, none⟩) 1 1 [⟨0, u1, 0, some ⟨Z13, 0, none⟩, 0, 0, u3, 0, 0, false, []⟩] rfl (holds8 (l := [(⟨0, u1, 0, some ⟨Z13, 0, none⟩, 0, 0, u3, 0, 0, false, []⟩ : Le)]) Le.cs_len Xwg19.out rfl (by simp)) (by omega) (by omega) ?_
          intro v20 wg20 h1 h2 h3
          have Bwg20 := hid (Bwg19.out.trans h2)
          have Owg20 := hid h1
          clear h1 h2 h3
          refine hK.out _ _ (TUP.out _ Bwg20.out) (fun hHeld => ?_)
          clear hK K
          (try simp only [Act.put, List.getElem_toArray, List.getElem_cons_succ, List.getElem_cons_zero, List.setIfInBounds_toArray, List.set_cons_zero, List.set_cons_succ])
          refine wpAnyH_take (i := 12) (v := v20) rfl (by kernel_rfl) (by kernel_rfl) (by kernel_rfl) (fun _ _ _ h => h) (Or.inl ⟨by rfl, ?_⟩) (by assumption) ?_
          · (intro w hSw; (try dsimp only at hSw); go_simp)
          (try simp only [Act.put, List.getElem_toArray, List.getElem_cons_succ, List.getElem_cons_zero, List.setIfInBounds_toArray, List.set_cons_zero, List.set_cons_succ])
          refine wpAnyH_done (by kernel_rfl) ?_ _
          clear hHeld
          go_wp2_with fail
          go_meet
          exact ⟨_, Owg20.out, Bwg20.out⟩
        refine AllReadyH.cons rfl (fun K hK => ?_) AllReadyH.nil
        go_simp
        have Bwg21 := hid (Bwg13.out.alloc Bwg13.out.size (.cells #[.int .i64 0, .int .i64 u1, .int .i64 0, .slice (some ⟨Z13, 0, none⟩) 0 0, .int .i64 u3, .int .i64 0, .int .i64 0, .bool false] 38))
        have Xwg21 : Hid ((wg13.alloc (.cells #[.int .i64 0, .int .i64 u1, .int .i64 0, .slice (some ⟨Z13, 0, none⟩) 0 0, .int .i64 u3, .int .i64 0, .int .i64 0, .bool false] 38)).heap[wg13.heap.size]? = some (.cells #[.int .i64 0, .int .i64 u1, .int .i64 0, .slice (some ⟨Z13, 0, none⟩) 0 0, .int .i64 u3, .int .i64 0, .int .i64 0, .bool false] 38)) := heap_alloc_new _ _
        generalize (wg13.alloc (.cells #[.int .i64 0, .int .i64 u1, .int .i64 0, .slice (some ⟨Z13, 0, none⟩) 0 0, .int .i64 u3, .int .i64 0, .int .i64 0, .bool false] 38)) = wg21 at *
        generalize wg13.heap.size = X21 at *
        refine hK.out _ _ (TUP.out _ Bwg21.out) (fun hHeld => ?_)
        clear hK K
        (try simp only [Act.put, List.getElem_toArray, List.getElem_cons_succ, List.getElem_cons_zero, List.setIfInBounds_toArray, List.set_cons_zero, List.set_cons_succ])
        refine wpAnyH_ready (rs := [0]) (by kernel_rfl) (by simp) ?_
        refine AllReadyH.cons rfl (fun K hK => ?_) AllReadyH.nil
        go_simp
        have Bwg22 := hid (Bwg21.out.alloc Bwg21.out.size (.cells #[] 38))
        have Owg22 : Hid (OwnE 38 8 Le.cs w6.heap.size (wg21.alloc (.cells #[] 38)) (.slice (some ⟨wg21.heap.size, 0, none⟩) 0 0) 0 []) := (OwnE.lit 38 8 Le.cs wg21).weaken Bwg21.out.size
        have Xwg22 : Hid ((wg21.alloc (.cells #[] 38)).heap[X21]? = some (.cells #[.int .i64 0, .int .i64 u1, .int .i64 0, .slice (some ⟨Z13, 0, none⟩) 0 0, .int .i64 u3, .int .i64 0, .int .i64 0, .bool false] 38)) := (Below.heap_alloc _ _ _ (Array.getElem?_eq_some_iff.1 Xwg21.out).1).trans Xwg21.out
        have Nwg22 : Hid (wg21.heap.size ≠ X21) := Nat.ne_of_gt (Array.getElem?_eq_some_iff.1 Xwg21.out).1
        generalize (wg21.alloc (.cells #[] 38)) = wg22 at *
        generalize wg21.heap.size = A22 at *
        refine hK.out _ _ (TUP.out _ Bwg22.out) (fun hHeld => ?_)
        clear hK K
        (try simp only [Act.put, List.getElem_toArray, List.getElem_cons_succ, List.getElem_cons_zero, List.setIfInBounds_toArray, List.set_cons_zero, List.set_cons_succ])
        refine wpAnyH_ready (rs := [2]) (by kernel_rfl) (by simp) ?_
        refine AllReadyH.cons rfl (fun K hK => ?_) AllReadyH.nil
        refine appE_step 22 38 _ 80 Le.cs_len Le.one Try.underlying22 infoLe rfl (by decide) wg22 rfl (.tmp 41) (.tmp 42) rfl w6.heap.size 0 (.slice (some ⟨A22, 0, none⟩) 0 0) [] rfl Owg22.out Bwg22.out.size b ln cp ls rfl (HLS.out wg22 Bwg22.out) (by omega) (by omega) ?_
        intro v23 wg23 h1 h2 h3
        have Bwg23 := hid (Bwg22.out.trans h2)
        have Owg23 : Hid (OwnE 38 8 Le.cs w6.heap.size wg23 v23 ln ls) := by have := h1; rw [Nat.zero_add, List.nil_append] at this; exact this
        have Xwg23 : Hid (wg23.heap[X21]? = some (.cells #[.int .i64 0, .int .i64 u1, .int .i64 0, .slice (some ⟨Z13, 0, none⟩) 0 0, .int .i64 u3, .int .i64 0, .int .i64 0, .bool false] 38)) := by unfold Hid; rw [h3.block X21 (Array.getElem?_eq_some_iff.1 Xwg22.out).1 (by simp [Value.ownBlock]; exact Ne.symm Nwg22.out)]; exact Xwg22.out
        clear h1 h2 h3
        refine hK.out _ _ (TUP.out _ Bwg23.out) (fun hHeld => ?_)
        clear hK K
        (try simp only [Act.put, List.getElem_toArray, List.getElem_cons_succ, List.getElem_cons_zero, List.setIfInBounds_toArray, List.set_cons_zero, List.set_cons_succ])
        refine wpAnyH_ready (rs := [11]) (by kernel_rfl) (by simp) ?_
        refine AllReadyH.cons rfl (fun K hK => ?_) AllReadyH.nil
        refine appE_step 22 38 _ 80 Le.cs_len Le.one Try.underlying22 infoLe rfl (by decide) wg23 rfl (.tmp 43) (.tmp 51) rfl w6.heap.size ln v23 ls rfl Owg23.out Bwg23.out.size (some ⟨X21, 0, none⟩) 1 1 [⟨0, u1, 0, some ⟨Z13, 0, none⟩, 0, 0, u3, 0, 0, false, []⟩] rfl (holds8 (l := [(⟨0, u1, 0, some ⟨Z13, 0, none⟩, 0, 0, u3, 0, 0, false, []⟩ : Le)]) Le.cs_len Xwg23.out rfl (by simp)) (by omega) (by omega) ?_
        intro v24 wg24 h1 h2 h3
        have Bwg24 := hid (Bwg23.out.trans h2)
        have Owg24 := hid h1
        clear h1 h2 h3
        refine hK.out _ _ (TUP.out _ Bwg24.out) (fun hHeld => ?_)
        clear hK K
        (try simp only [Act.put, List.getElem_toArray, List.getElem_cons_succ, List.getElem_cons_zero, List.setIfInBounds_toArray, List.set_cons_zero, List.set_cons_succ])
        refine wpAnyH_take (i := 12) (v := v24) rfl (by kernel_rfl) (by kernel_rfl) (by kernel_rfl) (fun _ _ _ h => h) (Or.inl ⟨by rfl, ?_⟩) (by assumption) ?_
        · (intro w hSw; (try dsimp only at hSw); go_simp)
        (try simp only [Act.put, List.getElem_toArray, List.getElem_cons_succ, List.getElem_cons_zero, List.setIfInBounds_toArray, List.set_cons_zero, List.set_cons_succ])
        refine wpAnyH_done (by kernel_rfl) ?_ _
        clear hHeld
        go_wp2_with fail
        go_meet
        exact ⟨_, Owg24.out, Bwg24.out⟩
      case rest =>
        obtain ⟨sa, am, cm_, rfl, hm7, b7⟩ := more_holds hcut (HCO.out wc (B6W.out.trans (Below.mono (by obtain ⟨_, _, h⟩ := hcut; exact h) B6W.out.size)))
        have B7 := hid (B6.out.trans (b7.mono B6.out.size))
        have B7W := hid (B6W.out.trans (b7.mono B6W.out.size))
        have U7 := hid (US.out wc u1 u3 sa am cm_ okq hm7)
        have MO := hid (MOK.out u1 u3 sa okq)
        replace y0 := keepc b7 y0
        replace y1 := keepc b7 y1
        have GS := hid (GE_.out sa)
        have MP := hid (fun hU => mor_pos (m := u3) (sa := sa) LOK.out okq hU)
        have MV := hid (fun (hU : useErr (mor ls u1 u3 sa) = 0) => useV_okv hU)
        have YC := hid (And.intro y0 y1)
        clear hcut hm7 b7 y2 GE_ TUP HLS Bwg0
        generalize mor ls u1 u3 sa = M at *
        generalize hue : useErr M = UE at *
        have HUE := hid hue
        clear hue
        go_wp2_with fail
        with_reducible refine U7.out.mono ?_
        rintro e w8 ⟨v8, rfl, o8, b8⟩
        have B8 := hid (B7.out.trans (b8.mono B7.out.size))
        have B8W := hid (B7W.out.trans (b8.mono B7W.out.size))
        replace y0 := keepc b8 y0
        replace y1 := keepc b8 y1
        by_cases eu : UE = 0
        case neg =>
          have t : (UE != 0) = true := by simpa using eu
          clear o8 b8 U7 y0 y1 GS
          go_wp2_with fail
          refine ⟨⟨k + 1, by omega, by go_num, B8⟩, ?_⟩
          simp [intOf]; omega
        subst eu
        rw [← HUE.out] at o8
        have O8 := o8.isU MO.out
        have hpos := MP.out (by first | exact HUE.out | rfl | trivial)
        have UV8 := hid (MV.out (by first | exact HUE.out | rfl | trivial))
        have BC8 := hid b8
        have GS2 := hid (fun hS => GS.out (by first | exact HUE.out | rfl | trivial) hS)
        have UQ := hid (uvL_q MO.out)
        have tP : decide ((P : Int) < 0) = false := by simp
        have hMn : (uvL M).length ≤ M.length := uvL_le
        clear o8 b8 U7
        generalize hus : uvL M = us at *
        clear hus
        generalize hun : us.length = un at *
        have HUN := hid hun
        obtain ⟨G, uc_, rfl, hGc, hGm, hGb, hRW⟩ := own_rwU O8 hpos
        have RW8 : Hid (RwU w8 G un (updF us u1 u2 0)) := hRW.congr (fun j hj => by unfold updF; rw [if_neg (fun h => absurd h.1 (by omega))])
        have hGm2 : (un : Int) ≤ 9223372036854775807 := by omega
        clear hun O8 GS MP MV hRW y0 y1
        go_wp2_with fail
        rename World => w9
        go_loopw [66] (fun i wr => ∃ j : Nat, j ≤ un ∧ i = .int .i64 (j : Int) ∧ Hid (RwU wr G un (updF us u1 u2 j)) ∧ Hid (Below wc.heap.size wc wr)) (fun i _ => un - (intOf i).toNat)
        case atStart => exact ⟨0, by omega, rfl, RW8, BC8⟩
        case round =>
          obtain ⟨j, hj, rfl, hRW, hBc⟩ := hrel
          have y0 := keepc hBc.out YC.out.1
          have y1 := keepc hBc.out YC.out.2
          have hszc := hBc.out.size
          by_cases hltu : j < un
          · have hltu' : j < us.length := by rw [HUN.out]; exact hltu
            obtain ⟨e0, e1, e2, f1⟩ := hRW.out.2 j hltu
            have EJ : updF us u1 u2 j j = ua us j := by unfold updF; rw [if_neg (fun h => absurd h.1 (by omega))]
            rw [EJ] at e0 e1 e2
            have ST := hid (updF_step us u1 u2 j)
            have hub := (okv_true (UV8.out _ (ua_mem hltu'))).1
            have ja : (0 : Int) ≤ (j : Int) := by omega
            have jb : (j : Int) < (un : Int) := by omega
            have jw : IntKind.i64.wrap (j : Int) = (j : Int) := by rw [IntKind.wrap_i64]; omega
            have jn : ((j : Int)).toNat = j := by omega
            clear e2
            generalize hxx : ua us j = xx at *
            have HXX := hid hxx
            clear hxx
            obtain ⟨X1, X2, X3⟩ := xx
            simp only at e0 e1 ST hub
            unfold okp at hub z3
            have hsum : IntKind.i64.wrap (X2 + u2) = X2 + u2 := by rw [IntKind.wrap_i64]; omega
            have e0z : wr.cell? ⟨G, 0 + j * 3, none⟩ = some (.int .i64 X1) := by rw [Nat.zero_add]; exact e0
            by_cases hXu : X1 = u1
            · have tx : (X1 == u1) = true := by simpa using hXu
              have ST2 : Hid (∀ i, updF us u1 u2 (j + 1) i = if i = j then ⟨X1, X2 + u2, X3⟩ else updF us u1 u2 j i) := fun i => by
                rw [ST.out i]
                by_cases h : i = j
                · rw [if_pos ⟨h, hXu⟩, if_pos h]
                · rw [if_neg (fun hh => h hh.1), if_neg h]
              clear ST hXu
              go_wp2_with fail
              have rg_e0z := drewc e0z
              have rg_e0 := drewc e0
              have rg_y0 := drewc y0
              refine wp_region_held_drew (S := (fun w' => w'.cell? ⟨G, 0 + j * 3, none⟩ = some (.int .i64 X1) ∧ w'.cell? ⟨G, j * 3, none⟩ = some (.int .i64 X1) ∧ w'.cell? ⟨QK, 0, none⟩ = some (.int .i64 u1))) (by kernel_rfl) ⟨rg_e0z, rg_e0, rg_y0⟩ (fun hHeld => ?_)
              refine wpAnyH_take (i := 0) (v := .slice (some ⟨G, 0, none⟩) un uc_) rfl (by kernel_rfl) (by kernel_rfl) (by kernel_rfl) (fun _ _ _ h => h) (Or.inl ⟨by rfl, ?_⟩) (by assumption) ?_
              · (intro w hSw; (try dsimp only at hSw); go_simp)
              (try simp only [Act.put, List.getElem_toArray, List.getElem_cons_succ, List.getElem_cons_zero, List.setIfInBounds_toArray, List.set_cons_zero, List.set_cons_succ])
              refine wpAnyH_take (i := 1) (v := .int .i64 (j : Int)) rfl (by kernel_rfl) (by kernel_rfl) (by kernel_rfl) (fun _ _ _ h => h) (Or.inl ⟨by rfl, ?_⟩) (by assumption) ?_
              · (intro w hSw; (try dsimp only at hSw); go_simp)
              (try simp only [Act.put, List.getElem_toArray, List.getElem_cons_succ, List.getElem_cons_zero, List.setIfInBounds_toArray, List.set_cons_zero, List.set_cons_succ])
              refine wpAnyH_take (i := 2) (v := .pointer (some ⟨G, 0 + j * 3, none⟩)) rfl (by kernel_rfl) (by kernel_rfl) (by kernel_rfl) (fun _ _ _ h => h) (Or.inl ⟨by rfl, ?_⟩) (by assumption) ?_
              · (intro w hSw; (try dsimp only at hSw); go_simp)
              (try simp only [Act.put, List.getElem_toArray, List.getElem_cons_succ, List.getElem_cons_zero, List.setIfInBounds_toArray, List.set_cons_zero, List.set_cons_succ])
              refine wpAnyH_take (i := 3) (v := .pointer (some ⟨G, 0 + j * 3, none⟩)) rfl (by kernel_rfl) (by kernel_rfl) (by kernel_rfl) (fun _ _ _ h => h) (Or.inl ⟨by rfl, ?_⟩) (by assumption) ?_
              · (intro w hSw; (try dsimp only at hSw); go_simp)
              (try simp only [Act.put, List.getElem_toArray, List.getElem_cons_succ, List.getElem_cons_zero, List.setIfInBounds_toArray, List.set_cons_zero, List.set_cons_succ])
              refine wpAnyH_take (i := 4) (v := .int .i64 X1) rfl (by kernel_rfl) (by kernel_rfl) (by kernel_rfl) (fun _ _ _ h => h) (Or.inl ⟨by rfl, ?_⟩) (by assumption) ?_
              · (intro w hSw; (try dsimp only at hSw); go_simp)
              (try simp only [Act.put, List.getElem_toArray, List.getElem_cons_succ, List.getElem_cons_zero, List.setIfInBounds_toArray, List.set_cons_zero, List.set_cons_succ])
              refine wpAnyH_take (i := 5) (v := .pointer (some ⟨QK, 0, none⟩)) rfl (by kernel_rfl) (by kernel_rfl) (by kernel_rfl) (fun _ _ _ h => h) (Or.inl ⟨by rfl, ?_⟩) (by assumption) ?_
              · (intro w hSw; (try dsimp only at hSw); go_simp)
              (try simp only [Act.put, List.getElem_toArray, List.getElem_cons_succ, List.getElem_cons_zero, List.setIfInBounds_toArray, List.set_cons_zero, List.set_cons_succ])
              refine wpAnyH_take (i := 6) (v := .int .i64 u1) rfl (by kernel_rfl) (by kernel_rfl) (by kernel_rfl) (fun _ _ _ h => h) (Or.inl ⟨by rfl, ?_⟩) (by assumption) ?_
              · (intro w hSw; (try dsimp only at hSw); go_simp)
              (try simp only [Act.put, List.getElem_toArray, List.getElem_cons_succ, List.getElem_cons_zero, List.setIfInBounds_toArray, List.set_cons_zero, List.set_cons_succ])
              refine wpAnyH_take (i := 7) (v := .bool true) rfl (by kernel_rfl) (by kernel_rfl) (by kernel_rfl) (fun _ _ _ h => h) (Or.inl ⟨by rfl, ?_⟩) (by assumption) ?_
              · (intro w hSw; (try dsimp only at hSw); go_simp)
              (try simp only [Act.put, List.getElem_toArray, List.getElem_cons_succ, List.getElem_cons_zero, List.setIfInBounds_toArray, List.set_cons_zero, List.set_cons_succ])
              refine wpAnyH_done (by kernel_rfl) ?_ _
              clear hHeld rg_e0z rg_e0 rg_y0
              go_upto_region 17 with fail
              replace y0 := drewc y0
              replace y1 := drewc y1
              replace e1 := drewc e1
              have RD := hid (hRW.out.drew)
              have BD := hid (hBc.out.drew)
              have RD2 := hid (RD.out.drew)
              have BD2 := hid (BD.out.drew)
              have e1d := drewc e1
              have y1d := drewc y1
              refine wp_region_held_drew (S := fun w' => w'.cell? ⟨QK, 1, none⟩ = some (.int .i64 u2)) (by kernel_rfl) y1d (fun hHeld => ?_)
              refine wpAnyH_take (i := 0) (v := .slice (some ⟨G, 0, none⟩) un uc_) rfl (by kernel_rfl) (by kernel_rfl) (by kernel_rfl) (fun _ _ _ h => h) (Or.inl ⟨by rfl, ?_⟩) (by assumption) ?_
              · (intro w hSw; (try dsimp only at hSw); go_simp)
              (try simp only [Act.put, List.getElem_toArray, List.getElem_cons_succ, List.getElem_cons_zero, List.setIfInBounds_toArray, List.set_cons_zero, List.set_cons_succ])
              refine wpAnyH_take (i := 1) (v := .int .i64 (j : Int)) rfl (by kernel_rfl) (by kernel_rfl) (by kernel_rfl) (fun _ _ _ h => h) (Or.inl ⟨by rfl, ?_⟩) (by assumption) ?_
              · (intro w hSw; (try dsimp only at hSw); go_simp)
              (try simp only [Act.put, List.getElem_toArray, List.getElem_cons_succ, List.getElem_cons_zero, List.setIfInBounds_toArray, List.set_cons_zero, List.set_cons_succ])
              refine wpAnyH_take (i := 2) (v := .pointer (some ⟨G, 0 + j * 3, none⟩)) rfl (by kernel_rfl) (by kernel_rfl) (by kernel_rfl) (fun _ _ _ h => h) (Or.inl ⟨by rfl, ?_⟩) (by assumption) ?_
              · (intro w hSw; (try dsimp only at hSw); go_simp)
              (try simp only [Act.put, List.getElem_toArray, List.getElem_cons_succ, List.getElem_cons_zero, List.setIfInBounds_toArray, List.set_cons_zero, List.set_cons_succ])
              refine wpAnyH_take (i := 3) (v := .pointer (some ⟨G, 0 + j * 3 + 1, none⟩)) rfl (by kernel_rfl) (by kernel_rfl) (by kernel_rfl) (fun _ _ _ h => h) (Or.inl ⟨by rfl, ?_⟩) (by assumption) ?_
              · (intro w hSw; (try dsimp only at hSw); go_simp)
              (try simp only [Act.put, List.getElem_toArray, List.getElem_cons_succ, List.getElem_cons_zero, List.setIfInBounds_toArray, List.set_cons_zero, List.set_cons_succ])
              refine wpAnyH_take (i := 4) (v := .pointer (some ⟨G, 0 + j * 3 + 1, none⟩)) rfl (by kernel_rfl) (by kernel_rfl) (by kernel_rfl) (fun _ _ _ h => h) (Or.inl ⟨by rfl, ?_⟩) (by assumption) ?_
              · (intro w hSw; (try dsimp only at hSw); go_simp)
              (try simp only [Act.put, List.getElem_toArray, List.getElem_cons_succ, List.getElem_cons_zero, List.setIfInBounds_toArray, List.set_cons_zero, List.set_cons_succ])
              refine wpAnyH_take (i := 6) (v := .pointer (some ⟨QK, 1, none⟩)) rfl (by kernel_rfl) (by kernel_rfl) (by kernel_rfl) (fun _ _ _ h => h) (Or.inl ⟨by rfl, ?_⟩) (by assumption) ?_
              · (intro w hSw; (try dsimp only at hSw); go_simp)
              (try simp only [Act.put, List.getElem_toArray, List.getElem_cons_succ, List.getElem_cons_zero, List.setIfInBounds_toArray, List.set_cons_zero, List.set_cons_succ])
              refine wpAnyH_take (i := 7) (v := .pointer (some ⟨QK, 1, none⟩)) rfl (by kernel_rfl) (by kernel_rfl) (by kernel_rfl) (fun _ _ _ h => h) (Or.inl ⟨by rfl, ?_⟩) (by assumption) ?_
              · (intro w hSw; (try dsimp only at hSw); go_simp)
              (try simp only [Act.put, List.getElem_toArray, List.getElem_cons_succ, List.getElem_cons_zero, List.setIfInBounds_toArray, List.set_cons_zero, List.set_cons_succ])
              refine wpAnyH_take (i := 8) (v := .int .i64 u2) rfl (by kernel_rfl) (by kernel_rfl) (by kernel_rfl) (fun _ _ _ h => h) (Or.inl ⟨by rfl, ?_⟩) (by assumption) ?_
              · (intro w hSw; (try dsimp only at hSw); go_simp)
              (try simp only [Act.put, List.getElem_toArray, List.getElem_cons_succ, List.getElem_cons_zero, List.setIfInBounds_toArray, List.set_cons_zero, List.set_cons_succ])
              refine wpAnyH_ready (rs := [5]) (by kernel_rfl) (by simp) ?_
              refine AllReadyH.cons rfl (fun K hK => ?_) AllReadyH.nil
              have e1z : wr.drew.drew.cell? ⟨G, 0 + j * 3 + 1, none⟩ = some (.int .i64 X2) := by rw [Nat.zero_add]; exact e1d
              go_simp
              refine hK.out _ _ y1d (fun hHeld => ?_)
              clear hK K
              (try simp only [Act.put, List.getElem_toArray, List.getElem_cons_succ, List.getElem_cons_zero, List.setIfInBounds_toArray, List.set_cons_zero, List.set_cons_succ])
              refine wpAnyH_take (i := 9) (v := .int .i64 (X2 + u2)) rfl (by kernel_rfl) (by kernel_rfl) (by kernel_rfl) (fun _ _ _ h => h) (Or.inl ⟨by rfl, ?_⟩) (by assumption) ?_
              · (intro w hSw; (try dsimp only at hSw); go_simp)
              (try simp only [Act.put, List.getElem_toArray, List.getElem_cons_succ, List.getElem_cons_zero, List.setIfInBounds_toArray, List.set_cons_zero, List.set_cons_succ])
              refine wpAnyH_take (i := 10) (v := .pointer (some ⟨G, 0 + j * 3, none⟩)) rfl (by kernel_rfl) (by kernel_rfl) (by kernel_rfl) (fun _ _ _ h => h) (Or.inl ⟨by rfl, ?_⟩) (by assumption) ?_
              · (intro w hSw; (try dsimp only at hSw); go_simp)
              (try simp only [Act.put, List.getElem_toArray, List.getElem_cons_succ, List.getElem_cons_zero, List.setIfInBounds_toArray, List.set_cons_zero, List.set_cons_succ])
              refine wpAnyH_take (i := 11) (v := .pointer (some ⟨G, 0 + j * 3 + 1, none⟩)) rfl (by kernel_rfl) (by kernel_rfl) (by kernel_rfl) (fun _ _ _ h => h) (Or.inl ⟨by rfl, ?_⟩) (by assumption) ?_
              · (intro w hSw; (try dsimp only at hSw); go_simp)
              (try simp only [Act.put, List.getElem_toArray, List.getElem_cons_succ, List.getElem_cons_zero, List.setIfInBounds_toArray, List.set_cons_zero, List.set_cons_succ])
              refine wpAnyH_take (i := 12) (v := .pointer (some ⟨G, 0 + j * 3 + 1, none⟩)) rfl (by kernel_rfl) (by kernel_rfl) (by kernel_rfl) (fun _ _ _ h => h) (Or.inl ⟨by rfl, ?_⟩) (by assumption) ?_
              · (intro w hSw; (try dsimp only at hSw); go_simp)
              (try simp only [Act.put, List.getElem_toArray, List.getElem_cons_succ, List.getElem_cons_zero, List.setIfInBounds_toArray, List.set_cons_zero, List.set_cons_succ])
              refine wpAnyH_ready (rs := [13]) (by kernel_rfl) (by simp) ?_
              refine AllReadyH.cons rfl (fun K hK => ?_) AllReadyH.nil
              have fzd : wr.drew.drew.frozen? ⟨G, j * 3 + 1, none⟩ = false := (RD2.out.2 j hltu).2.2.2
              go_simp
              have QGne : QK ≠ G := by
                have := World.block_lt_of_cell? _ _ YC.out.1
                have h2 : QK < wc.heap.size := this
                omega
              refine hK.out _ _ ?_ (fun hHeld => ?_)
              · exact (World.cell?_setCell_far _ _ _ _ (by show G ≠ QK; exact Ne.symm QGne)).trans y1d
              clear hK K
              (try simp only [Act.put, List.getElem_toArray, List.getElem_cons_succ, List.getElem_cons_zero, List.setIfInBounds_toArray, List.set_cons_zero, List.set_cons_succ])
              refine wpAnyH_done (by kernel_rfl) ?_ _
              clear hHeld
              have RN : Hid (RwU (wr.drew.drew.setCell ⟨G, j * 3 + 1, none⟩ (.int .i64 (X2 + u2))) G un (updF us u1 u2 (j + 1))) := RD2.out.set hltu (fun i hi => by
                rw [ST2.out i]
                by_cases h : i = j
                · rw [if_pos h, if_pos h]
                  have : updF us u1 u2 j j = ⟨X1, X2, X3⟩ := by unfold updF; rw [if_neg (fun h => absurd h.1 (by omega)), HXX.out]
                  rw [this]
                · rw [if_neg h, if_neg h])
              have BN := hid (BD2.out.setCell (p := ⟨G, j * 3 + 1, none⟩) (by show wc.heap.size ≤ G; exact hGb) (.int .i64 (X2 + u2)))
              go_wp2_with fail
              refine ⟨⟨j + 1, by omega, by go_num, RN, BN⟩, ?_⟩
              simp [intOf]; omega
            · have tx : (X1 == u1) = false := by simpa using hXu
              have ST2 : Hid (∀ i, updF us u1 u2 (j + 1) i = updF us u1 u2 j i) := fun i => by
                rw [ST.out i, if_neg (fun hh => hXu hh.2)]
              have RN : Hid (RwU wr.drew G un (updF us u1 u2 (j + 1))) := hRW.out.drew.congr (fun i _ => ST2.out i)
              have BN := hid (hBc.out.drew)
              clear ST hXu
              go_wp2_with fail
              have rg_e0z := drewc e0z
              have rg_e0 := drewc e0
              have rg_y0 := drewc y0
              refine wp_region_held_drew (S := (fun w' => w'.cell? ⟨G, 0 + j * 3, none⟩ = some (.int .i64 X1) ∧ w'.cell? ⟨G, j * 3, none⟩ = some (.int .i64 X1) ∧ w'.cell? ⟨QK, 0, none⟩ = some (.int .i64 u1))) (by kernel_rfl) ⟨rg_e0z, rg_e0, rg_y0⟩ (fun hHeld => ?_)
              refine wpAnyH_take (i := 0) (v := .slice (some ⟨G, 0, none⟩) un uc_) rfl (by kernel_rfl) (by kernel_rfl) (by kernel_rfl) (fun _ _ _ h => h) (Or.inl ⟨by rfl, ?_⟩) (by assumption) ?_
              · (intro w hSw; (try dsimp only at hSw); go_simp)
              (try simp only [Act.put, List.getElem_toArray, List.getElem_cons_succ, List.getElem_cons_zero, List.setIfInBounds_toArray, List.set_cons_zero, List.set_cons_succ])
              refine wpAnyH_take (i := 1) (v := .int .i64 (j : Int)) rfl (by kernel_rfl) (by kernel_rfl) (by kernel_rfl) (fun _ _ _ h => h) (Or.inl ⟨by rfl, ?_⟩) (by assumption) ?_
              · (intro w hSw; (try dsimp only at hSw); go_simp)
              (try simp only [Act.put, List.getElem_toArray, List.getElem_cons_succ, List.getElem_cons_zero, List.setIfInBounds_toArray, List.set_cons_zero, List.set_cons_succ])
              refine wpAnyH_take (i := 2) (v := .pointer (some ⟨G, 0 + j * 3, none⟩)) rfl (by kernel_rfl) (by kernel_rfl) (by kernel_rfl) (fun _ _ _ h => h) (Or.inl ⟨by rfl, ?_⟩) (by assumption) ?_
              · (intro w hSw; (try dsimp only at hSw); go_simp)
              (try simp only [Act.put, List.getElem_toArray, List.getElem_cons_succ, List.getElem_cons_zero, List.setIfInBounds_toArray, List.set_cons_zero, List.set_cons_succ])
              refine wpAnyH_take (i := 3) (v := .pointer (some ⟨G, 0 + j * 3, none⟩)) rfl (by kernel_rfl) (by kernel_rfl) (by kernel_rfl) (fun _ _ _ h => h) (Or.inl ⟨by rfl, ?_⟩) (by assumption) ?_
              · (intro w hSw; (try dsimp only at hSw); go_simp)
              (try simp only [Act.put, List.getElem_toArray, List.getElem_cons_succ, List.getElem_cons_zero, List.setIfInBounds_toArray, List.set_cons_zero, List.set_cons_succ])
              refine wpAnyH_take (i := 4) (v := .int .i64 X1) rfl (by kernel_rfl) (by kernel_rfl) (by kernel_rfl) (fun _ _ _ h => h) (Or.inl ⟨by rfl, ?_⟩) (by assumption) ?_
              · (intro w hSw; (try dsimp only at hSw); go_simp)
              (try simp only [Act.put, List.getElem_toArray, List.getElem_cons_succ, List.getElem_cons_zero, List.setIfInBounds_toArray, List.set_cons_zero, List.set_cons_succ])
              refine wpAnyH_take (i := 5) (v := .pointer (some ⟨QK, 0, none⟩)) rfl (by kernel_rfl) (by kernel_rfl) (by kernel_rfl) (fun _ _ _ h => h) (Or.inl ⟨by rfl, ?_⟩) (by assumption) ?_
              · (intro w hSw; (try dsimp only at hSw); go_simp)
              (try simp only [Act.put, List.getElem_toArray, List.getElem_cons_succ, List.getElem_cons_zero, List.setIfInBounds_toArray, List.set_cons_zero, List.set_cons_succ])
              refine wpAnyH_take (i := 6) (v := .int .i64 u1) rfl (by kernel_rfl) (by kernel_rfl) (by kernel_rfl) (fun _ _ _ h => h) (Or.inl ⟨by rfl, ?_⟩) (by assumption) ?_
              · (intro w hSw; (try dsimp only at hSw); go_simp)
              (try simp only [Act.put, List.getElem_toArray, List.getElem_cons_succ, List.getElem_cons_zero, List.setIfInBounds_toArray, List.set_cons_zero, List.set_cons_succ])
              refine wpAnyH_take (i := 7) (v := .bool false) rfl (by kernel_rfl) (by kernel_rfl) (by kernel_rfl) (fun _ _ _ h => h) (Or.inl ⟨by rfl, ?_⟩) (by assumption) ?_
              · (intro w hSw; (try dsimp only at hSw); go_simp)
              (try simp only [Act.put, List.getElem_toArray, List.getElem_cons_succ, List.getElem_cons_zero, List.setIfInBounds_toArray, List.set_cons_zero, List.set_cons_succ])
              refine wpAnyH_done (by kernel_rfl) ?_ _
              clear hHeld rg_e0z rg_e0 rg_y0
              go_wp2_with fail
              refine ⟨⟨j + 1, by omega, by go_num, RN, BN⟩, ?_⟩
              simp [intOf]; omega
          · obtain rfl : un = j := by omega
            have HUU : HoldsU wr (some ⟨G, 0, none⟩) un uc_ (updU u1 u2 us) := by
              have e := updU_len u1 u2 us
              rw [HUN.out] at e
              have h1 := hRW.out.congr (f' := ua (updU u1 u2 us)) (fun i hi => by rw [updU_at (by rw [HUN.out]; exact hi), HUN.out])
              have h2 : RwU wr G (updU u1 u2 us).length (ua (updU u1 u2 us)) := by rw [e]; exact h1
              have h3 := h2.holds (cap := uc_) (by rw [e]; exact hGc) hGm
              rw [e] at h3
              exact h3
            have BWr := hid (B7W.out.trans (hBc.out.mono B7W.out.size))
            have B2r := hid (B7.out.trans (hBc.out.mono B7.out.size))
            have SS := hid (SU.out wr _ un uc_ (updU u1 u2 us) BWr.out HUU (updU_q UQ.out))
            have AV := hid (fun (e : sumsE l (updU u1 u2 us) = 0) => (show sumsR l (updU u1 u2 us) = vecsTo l (updU u1 u2 us) l.length from by unfold sumsR; rw [if_pos e]))
            clear HUU hRW
            generalize hSE : sumsE l (updU u1 u2 us) = SE at *
            have HSE := hid hSE
            clear hSE
            go_wp2_with fail
            with_reducible refine SS.out.mono ?_
            rintro e w10 ⟨v10, rfl, o10, b10⟩
            have B10 := hid (B2r.out.trans (b10.mono B2r.out.size))
            have BW10 := hid (BWr.out.trans (b10.mono BWr.out.size))
            replace y0 := keepc b10 y0
            clear y1 SS
            by_cases eS : SE = 0
            case neg =>
              have tS : (SE == 0) = false := by simpa using eS
              have HSn := hid eS
              clear eS o10 b10
              go_wp2_with fail
              refine wp_region_held_drew (S := (fun w' => True)) (by kernel_rfl) trivial (fun hHeld => ?_)
              refine wpAnyH_take (i := 0) (v := .int .i64 SE) rfl (by kernel_rfl) (by kernel_rfl) (by kernel_rfl) (fun _ _ _ h => h) (Or.inl ⟨by rfl, ?_⟩) (by assumption) ?_
              · (intro w hSw; (try dsimp only at hSw); go_simp)
              (try simp only [Act.put, List.getElem_toArray, List.getElem_cons_succ, List.getElem_cons_zero, List.setIfInBounds_toArray, List.set_cons_zero, List.set_cons_succ])
              refine wpAnyH_take (i := 1) (v := .bool false) rfl (by kernel_rfl) (by kernel_rfl) (by kernel_rfl) (fun _ _ _ h => h) (Or.inl ⟨by rfl, ?_⟩) (by assumption) ?_
              · (intro w hSw; (try dsimp only at hSw); go_simp)
              (try simp only [Act.put, List.getElem_toArray, List.getElem_cons_succ, List.getElem_cons_zero, List.setIfInBounds_toArray, List.set_cons_zero, List.set_cons_succ])
              refine wpAnyH_take (i := 2) (v := .bool false) rfl (by kernel_rfl) (by kernel_rfl) (by kernel_rfl) (fun _ _ _ h => h) (Or.inl ⟨by rfl, ?_⟩) (by assumption) ?_
              · (intro w hSw; (try dsimp only at hSw); go_simp)
              (try simp only [Act.put, List.getElem_toArray, List.getElem_cons_succ, List.getElem_cons_zero, List.setIfInBounds_toArray, List.set_cons_zero, List.set_cons_succ])
              refine wpAnyH_take (i := 3) (v := undef) rfl (by kernel_rfl) (by kernel_rfl) (by kernel_rfl) (fun _ _ _ h => h) (Or.inr ⟨by rfl, rfl⟩) (by assumption) ?_
              (try simp only [Act.put, List.getElem_toArray, List.getElem_cons_succ, List.getElem_cons_zero, List.setIfInBounds_toArray, List.set_cons_zero, List.set_cons_succ])
              refine wpAnyH_take (i := 4) (v := undef) rfl (by kernel_rfl) (by kernel_rfl) (by kernel_rfl) (fun _ _ _ h => h) (Or.inr ⟨by rfl, rfl⟩) (by assumption) ?_
              (try simp only [Act.put, List.getElem_toArray, List.getElem_cons_succ, List.getElem_cons_zero, List.setIfInBounds_toArray, List.set_cons_zero, List.set_cons_succ])
              refine wpAnyH_take (i := 5) (v := undef) rfl (by kernel_rfl) (by kernel_rfl) (by kernel_rfl) (fun _ _ _ h => h) (Or.inr ⟨by rfl, rfl⟩) (by assumption) ?_
              (try simp only [Act.put, List.getElem_toArray, List.getElem_cons_succ, List.getElem_cons_zero, List.setIfInBounds_toArray, List.set_cons_zero, List.set_cons_succ])
              refine wpAnyH_take (i := 6) (v := undef) rfl (by kernel_rfl) (by kernel_rfl) (by kernel_rfl) (fun _ _ _ h => h) (Or.inr ⟨by rfl, rfl⟩) (by assumption) ?_
              (try simp only [Act.put, List.getElem_toArray, List.getElem_cons_succ, List.getElem_cons_zero, List.setIfInBounds_toArray, List.set_cons_zero, List.set_cons_succ])
              refine wpAnyH_take (i := 7) (v := undef) rfl (by kernel_rfl) (by kernel_rfl) (by kernel_rfl) (fun _ _ _ h => h) (Or.inr ⟨by rfl, rfl⟩) (by assumption) ?_
              (try simp only [Act.put, List.getElem_toArray, List.getElem_cons_succ, List.getElem_cons_zero, List.setIfInBounds_toArray, List.set_cons_zero, List.set_cons_succ])
              refine wpAnyH_take (i := 8) (v := undef) rfl (by kernel_rfl) (by kernel_rfl) (by kernel_rfl) (fun _ _ _ h => h) (Or.inr ⟨by rfl, rfl⟩) (by assumption) ?_
              (try simp only [Act.put, List.getElem_toArray, List.getElem_cons_succ, List.getElem_cons_zero, List.setIfInBounds_toArray, List.set_cons_zero, List.set_cons_succ])
              refine wpAnyH_take (i := 9) (v := undef) rfl (by kernel_rfl) (by kernel_rfl) (by kernel_rfl) (fun _ _ _ h => h) (Or.inr ⟨by rfl, rfl⟩) (by assumption) ?_
              (try simp only [Act.put, List.getElem_toArray, List.getElem_cons_succ, List.getElem_cons_zero, List.setIfInBounds_toArray, List.set_cons_zero, List.set_cons_succ])
              refine wpAnyH_take (i := 10) (v := undef) rfl (by kernel_rfl) (by kernel_rfl) (by kernel_rfl) (fun _ _ _ h => h) (Or.inr ⟨by rfl, rfl⟩) (by assumption) ?_
              (try simp only [Act.put, List.getElem_toArray, List.getElem_cons_succ, List.getElem_cons_zero, List.setIfInBounds_toArray, List.set_cons_zero, List.set_cons_succ])
              refine wpAnyH_take (i := 11) (v := undef) rfl (by kernel_rfl) (by kernel_rfl) (by kernel_rfl) (fun _ _ _ h => h) (Or.inr ⟨by rfl, rfl⟩) (by assumption) ?_
              (try simp only [Act.put, List.getElem_toArray, List.getElem_cons_succ, List.getElem_cons_zero, List.setIfInBounds_toArray, List.set_cons_zero, List.set_cons_succ])
              refine wpAnyH_take (i := 12) (v := undef) rfl (by kernel_rfl) (by kernel_rfl) (by kernel_rfl) (fun _ _ _ h => h) (Or.inr ⟨by rfl, rfl⟩) (by assumption) ?_
              (try simp only [Act.put, List.getElem_toArray, List.getElem_cons_succ, List.getElem_cons_zero, List.setIfInBounds_toArray, List.set_cons_zero, List.set_cons_succ])
              refine wpAnyH_take (i := 13) (v := undef) rfl (by kernel_rfl) (by kernel_rfl) (by kernel_rfl) (fun _ _ _ h => h) (Or.inr ⟨by rfl, rfl⟩) (by assumption) ?_
              (try simp only [Act.put, List.getElem_toArray, List.getElem_cons_succ, List.getElem_cons_zero, List.setIfInBounds_toArray, List.set_cons_zero, List.set_cons_succ])
              refine wpAnyH_take (i := 14) (v := undef) rfl (by kernel_rfl) (by kernel_rfl) (by kernel_rfl) (fun _ _ _ h => h) (Or.inr ⟨by rfl, rfl⟩) (by assumption) ?_
              (try simp only [Act.put, List.getElem_toArray, List.getElem_cons_succ, List.getElem_cons_zero, List.setIfInBounds_toArray, List.set_cons_zero, List.set_cons_succ])
              refine wpAnyH_take (i := 15) (v := undef) rfl (by kernel_rfl) (by kernel_rfl) (by kernel_rfl) (fun _ _ _ h => h) (Or.inr ⟨by rfl, rfl⟩) (by assumption) ?_
              (try simp only [Act.put, List.getElem_toArray, List.getElem_cons_succ, List.getElem_cons_zero, List.setIfInBounds_toArray, List.set_cons_zero, List.set_cons_succ])
              refine wpAnyH_take (i := 16) (v := undef) rfl (by kernel_rfl) (by kernel_rfl) (by kernel_rfl) (fun _ _ _ h => h) (Or.inr ⟨by rfl, rfl⟩) (by assumption) ?_
              (try simp only [Act.put, List.getElem_toArray, List.getElem_cons_succ, List.getElem_cons_zero, List.setIfInBounds_toArray, List.set_cons_zero, List.set_cons_succ])
              refine wpAnyH_take (i := 17) (v := undef) rfl (by kernel_rfl) (by kernel_rfl) (by kernel_rfl) (fun _ _ _ h => h) (Or.inr ⟨by rfl, rfl⟩) (by assumption) ?_
              (try simp only [Act.put, List.getElem_toArray, List.getElem_cons_succ, List.getElem_cons_zero, List.setIfInBounds_toArray, List.set_cons_zero, List.set_cons_succ])
              refine wpAnyH_take (i := 18) (v := .bool false) rfl (by kernel_rfl) (by kernel_rfl) (by kernel_rfl) (fun _ _ _ h => h) (Or.inl ⟨by rfl, ?_⟩) (by assumption) ?_
              · (intro w hSw; (try dsimp only at hSw); go_simp)
              (try simp only [Act.put, List.getElem_toArray, List.getElem_cons_succ, List.getElem_cons_zero, List.setIfInBounds_toArray, List.set_cons_zero, List.set_cons_succ])
              refine wpAnyH_done (by kernel_rfl) ?_ _
              clear hHeld 
              have BN := hid (B10.out.drew)
              go_wp2_with fail
              refine ⟨⟨k + 1, by omega, by go_num, BN⟩, ?_⟩
              simp [intOf]; omega
            subst eS
            rw [AV.out (by first | rfl | trivial)] at o10
            obtain ⟨va_, vc, rfl, HV⟩ := o10.holds
            rw [vecsTo_len] at HV ⊢
            obtain ⟨vb, vo, rfl, RV⟩ := HV.rowV (by omega)
            obtain ⟨r0, r1⟩ := RV P hp
            rw [va_vecs hp] at r0 r1
            have hvc := HV.2.1
            have hvm := HV.2.2.1
            have hPl : P < len := by rw [← HQL.out]; exact hp
            have HQW := HQ.out w10 BW10.out
            obtain ⟨lb, lo, rfl, RWQ⟩ := HQW.row (by omega)
            obtain ⟨q0_, q1_, q2_, q3_, q4_, e5, e6⟩ := RWQ.2 P hp
            have GG := GS2.out (by first | exact HSE.out | rfl | trivial)
            try rw [HPP.out] at GG
            have HNF : Hid (hasN SL u1 = fitB (vecAt l (updU u1 u2 us) P).1 (vecAt l (updU u1 u2 us) P).2 (qa l P).mc (qa l P).mm) := HB_.out.trans GG
            have FI := hid (fun W => fits_any (vecAt l (updU u1 u2 us) P).1 (vecAt l (updU u1 u2 us) P).2 (qa l P).mc (qa l P).mm W)
            clear q0_ q1_ q2_ q3_ q4_ RWQ HQW HV RV o10 b10 GG GS2 AV
            generalize fitB (vecAt l (updU u1 u2 us) P).1 (vecAt l (updU u1 u2 us) P).2 (qa l P).mc (qa l P).mm = FB at *
            generalize vecAt l (updU u1 u2 us) P = V at *
            generalize qa l P = q at *
            obtain ⟨V1, V2⟩ := V
            obtain ⟨q1, q2, q3, q4, q5, q6, q7⟩ := q
            simp only at r0 r1 e5 e6 FI
            have HN_ : Hid (∀ W, Below w10.heap.size w10 W → Calls Try.prog 19 #[.slice aa SL.length ac, .int .i64 u1] W fun e w' => e = .returned (.bool FB) ∧ Below W.heap.size W w') := fun W hW => (hasN_any aa SL.length ac SL u1 W (H2.out.below (B10.out.trans (hW.mono B10.out.size))) (by omega)).mono (by
              rintro e w' ⟨rfl, rfl⟩
              exact ⟨by rw [HNF.out], Below.refl _ _⟩)
            have ka2 : (0 : Int) ≤ (P : Int) := by omega
            have kb2 : (P : Int) < (len : Int) := by omega
            have kc2 : (P : Int) < (l.length : Int) := by omega
            have e6b : w10.cell? ⟨lb, lo + P * 7 + 5 + 1, none⟩ = some (.int .i64 q7) := e6
            have BX := hid (Below.drew (Below.refl w10.heap.size w10))
            have tFF : (FB != FB) = false := by cases FB <;> rfl
            go_wp2_with fail
            have rg_y0 := drewc y0
            have rg_r0 := drewc r0
            have rg_r1 := drewc r1
            have rg_e5 := drewc e5
            have rg_e6b := drewc e6b
            have rg_e6 := drewc e6
            refine wp_region_held_drew (S := (fun w' => w'.cell? ⟨QK, 0, none⟩ = some (.int .i64 u1) ∧ w'.cell? ⟨vb, vo + P * 2, none⟩ = some (.int .i64 V1) ∧ w'.cell? ⟨vb, vo + P * 2 + 1, none⟩ = some (.int .i64 V2) ∧ w'.cell? ⟨lb, lo + P * 7 + 5, none⟩ = some (.int .i64 q6) ∧ w'.cell? ⟨lb, lo + P * 7 + 5 + 1, none⟩ = some (.int .i64 q7) ∧ w'.cell? ⟨lb, lo + P * 7 + 6, none⟩ = some (.int .i64 q7))) (by kernel_rfl) ⟨rg_y0, rg_r0, rg_r1, rg_e5, rg_e6b, rg_e6⟩ (fun hHeld => ?_)
            refine wpAnyH_take (i := 0) (v := .int .i64 0) rfl (by kernel_rfl) (by kernel_rfl) (by kernel_rfl) (fun _ _ _ h => h) (Or.inl ⟨by rfl, ?_⟩) (by assumption) ?_
            · (intro w hSw; (try dsimp only at hSw); go_simp)
            (try simp only [Act.put, List.getElem_toArray, List.getElem_cons_succ, List.getElem_cons_zero, List.setIfInBounds_toArray, List.set_cons_zero, List.set_cons_succ])
            refine wpAnyH_take (i := 1) (v := .bool true) rfl (by kernel_rfl) (by kernel_rfl) (by kernel_rfl) (fun _ _ _ h => h) (Or.inl ⟨by rfl, ?_⟩) (by assumption) ?_
            · (intro w hSw; (try dsimp only at hSw); go_simp)
            (try simp only [Act.put, List.getElem_toArray, List.getElem_cons_succ, List.getElem_cons_zero, List.setIfInBounds_toArray, List.set_cons_zero, List.set_cons_succ])
            refine wpAnyH_take (i := 2) (v := .bool true) rfl (by kernel_rfl) (by kernel_rfl) (by kernel_rfl) (fun _ _ _ h => h) (Or.inl ⟨by rfl, ?_⟩) (by assumption) ?_
            · (intro w hSw; (try dsimp only at hSw); go_simp)
            (try simp only [Act.put, List.getElem_toArray, List.getElem_cons_succ, List.getElem_cons_zero, List.setIfInBounds_toArray, List.set_cons_zero, List.set_cons_succ])
            refine wpAnyH_take (i := 3) (v := .slice aa SL.length ac) rfl (by kernel_rfl) (by kernel_rfl) (by kernel_rfl) (fun _ _ _ h => h) (Or.inl ⟨by rfl, ?_⟩) (by assumption) ?_
            · (intro w hSw; (try dsimp only at hSw); go_simp)
            (try simp only [Act.put, List.getElem_toArray, List.getElem_cons_succ, List.getElem_cons_zero, List.setIfInBounds_toArray, List.set_cons_zero, List.set_cons_succ])
            refine wpAnyH_take (i := 4) (v := .pointer (some ⟨QK, 0, none⟩)) rfl (by kernel_rfl) (by kernel_rfl) (by kernel_rfl) (fun _ _ _ h => h) (Or.inl ⟨by rfl, ?_⟩) (by assumption) ?_
            · (intro w hSw; (try dsimp only at hSw); go_simp)
            (try simp only [Act.put, List.getElem_toArray, List.getElem_cons_succ, List.getElem_cons_zero, List.setIfInBounds_toArray, List.set_cons_zero, List.set_cons_succ])
            refine wpAnyH_take (i := 5) (v := .int .i64 u1) rfl (by kernel_rfl) (by kernel_rfl) (by kernel_rfl) (fun _ _ _ h => h) (Or.inl ⟨by rfl, ?_⟩) (by assumption) ?_
            · (intro w hSw; (try dsimp only at hSw); go_simp)
            (try simp only [Act.put, List.getElem_toArray, List.getElem_cons_succ, List.getElem_cons_zero, List.setIfInBounds_toArray, List.set_cons_zero, List.set_cons_succ])
            refine wpAnyH_take (i := 7) (v := .slice (some ⟨vb, vo, none⟩) l.length vc) rfl (by kernel_rfl) (by kernel_rfl) (by kernel_rfl) (fun _ _ _ h => h) (Or.inl ⟨by rfl, ?_⟩) (by assumption) ?_
            · (intro w hSw; (try dsimp only at hSw); go_simp)
            (try simp only [Act.put, List.getElem_toArray, List.getElem_cons_succ, List.getElem_cons_zero, List.setIfInBounds_toArray, List.set_cons_zero, List.set_cons_succ])
            refine wpAnyH_take (i := 8) (v := .int .i64 (P : Int)) rfl (by kernel_rfl) (by kernel_rfl) (by kernel_rfl) (fun _ _ _ h => h) (Or.inl ⟨by rfl, ?_⟩) (by assumption) ?_
            · (intro w hSw; (try dsimp only at hSw); go_simp)
            (try simp only [Act.put, List.getElem_toArray, List.getElem_cons_succ, List.getElem_cons_zero, List.setIfInBounds_toArray, List.set_cons_zero, List.set_cons_succ])
            refine wpAnyH_take (i := 9) (v := .pointer (some ⟨vb, vo + P * 2, none⟩)) rfl (by kernel_rfl) (by kernel_rfl) (by kernel_rfl) (fun _ _ _ h => h) (Or.inl ⟨by rfl, ?_⟩) (by assumption) ?_
            · (intro w hSw; (try dsimp only at hSw); go_simp)
            (try simp only [Act.put, List.getElem_toArray, List.getElem_cons_succ, List.getElem_cons_zero, List.setIfInBounds_toArray, List.set_cons_zero, List.set_cons_succ])
            refine wpAnyH_take (i := 10) (v := .agg #[.int .i64 V1, .int .i64 V2]) rfl (by kernel_rfl) (by kernel_rfl) (by kernel_rfl) (fun _ _ _ h => h) (Or.inl ⟨by rfl, ?_⟩) (by assumption) ?_
            · (intro w hSw; (try dsimp only at hSw); go_simp)
            (try simp only [Act.put, List.getElem_toArray, List.getElem_cons_succ, List.getElem_cons_zero, List.setIfInBounds_toArray, List.set_cons_zero, List.set_cons_succ])
            refine wpAnyH_take (i := 11) (v := .slice (some ⟨lb, lo, none⟩) len cap) rfl (by kernel_rfl) (by kernel_rfl) (by kernel_rfl) (fun _ _ _ h => h) (Or.inl ⟨by rfl, ?_⟩) (by assumption) ?_
            · (intro w hSw; (try dsimp only at hSw); go_simp)
            (try simp only [Act.put, List.getElem_toArray, List.getElem_cons_succ, List.getElem_cons_zero, List.setIfInBounds_toArray, List.set_cons_zero, List.set_cons_succ])
            refine wpAnyH_take (i := 12) (v := .int .i64 (P : Int)) rfl (by kernel_rfl) (by kernel_rfl) (by kernel_rfl) (fun _ _ _ h => h) (Or.inl ⟨by rfl, ?_⟩) (by assumption) ?_
            · (intro w hSw; (try dsimp only at hSw); go_simp)
            (try simp only [Act.put, List.getElem_toArray, List.getElem_cons_succ, List.getElem_cons_zero, List.setIfInBounds_toArray, List.set_cons_zero, List.set_cons_succ])
            refine wpAnyH_take (i := 13) (v := .pointer (some ⟨lb, lo + P * 7, none⟩)) rfl (by kernel_rfl) (by kernel_rfl) (by kernel_rfl) (fun _ _ _ h => h) (Or.inl ⟨by rfl, ?_⟩) (by assumption) ?_
            · (intro w hSw; (try dsimp only at hSw); go_simp)
            (try simp only [Act.put, List.getElem_toArray, List.getElem_cons_succ, List.getElem_cons_zero, List.setIfInBounds_toArray, List.set_cons_zero, List.set_cons_succ])
            refine wpAnyH_take (i := 14) (v := .pointer (some ⟨lb, lo + P * 7 + 5, none⟩)) rfl (by kernel_rfl) (by kernel_rfl) (by kernel_rfl) (fun _ _ _ h => h) (Or.inl ⟨by rfl, ?_⟩) (by assumption) ?_
            · (intro w hSw; (try dsimp only at hSw); go_simp)
            (try simp only [Act.put, List.getElem_toArray, List.getElem_cons_succ, List.getElem_cons_zero, List.setIfInBounds_toArray, List.set_cons_zero, List.set_cons_succ])
            refine wpAnyH_take (i := 15) (v := .agg #[.int .i64 q6, .int .i64 q7]) rfl (by kernel_rfl) (by kernel_rfl) (by kernel_rfl) (fun _ _ _ h => h) (Or.inl ⟨by rfl, ?_⟩) (by assumption) ?_
            · (intro w hSw; (try dsimp only at hSw); go_simp)
            (try simp only [Act.put, List.getElem_toArray, List.getElem_cons_succ, List.getElem_cons_zero, List.setIfInBounds_toArray, List.set_cons_zero, List.set_cons_succ])
            refine wpAnyH_ready (rs := [6]) (by kernel_rfl) (by simp) ?_
            refine AllReadyH.cons rfl (fun K hK => ?_) AllReadyH.nil
            go_simp
            with_reducible refine (HN_.out _ BX.out).mono ?_
            rintro e z1 ⟨rfl, b1⟩
            replace BX := hid (BX.out.trans (b1.mono BX.out.size))
            replace rg_y0 := keepc b1 rg_y0
            replace rg_r0 := keepc b1 rg_r0
            replace rg_r1 := keepc b1 rg_r1
            replace rg_e5 := keepc b1 rg_e5
            replace rg_e6b := keepc b1 rg_e6b
            replace rg_e6 := keepc b1 rg_e6
            refine hK.out _ _ ⟨rg_y0, rg_r0, rg_r1, rg_e5, rg_e6b, rg_e6⟩ (fun hHeld => ?_)
            clear hK K
            (try simp only [Act.put, List.getElem_toArray, List.getElem_cons_succ, List.getElem_cons_zero, List.setIfInBounds_toArray, List.set_cons_zero, List.set_cons_succ])
            refine wpAnyH_ready (rs := [16]) (by kernel_rfl) (by simp) ?_
            refine AllReadyH.cons rfl (fun K hK => ?_) AllReadyH.nil
            go_simp
            with_reducible refine (FI.out _).mono ?_
            rintro e z2 ⟨rfl, b2⟩
            replace BX := hid (BX.out.trans (b2.mono BX.out.size))
            replace rg_y0 := keepc b2 rg_y0
            replace rg_r0 := keepc b2 rg_r0
            replace rg_r1 := keepc b2 rg_r1
            replace rg_e5 := keepc b2 rg_e5
            replace rg_e6b := keepc b2 rg_e6b
            replace rg_e6 := keepc b2 rg_e6
            refine hK.out _ _ ⟨rg_y0, rg_r0, rg_r1, rg_e5, rg_e6b, rg_e6⟩ (fun hHeld => ?_)
            clear hK K
            (try simp only [Act.put, List.getElem_toArray, List.getElem_cons_succ, List.getElem_cons_zero, List.setIfInBounds_toArray, List.set_cons_zero, List.set_cons_succ])
            refine wpAnyH_take (i := 17) (v := .bool false) rfl (by kernel_rfl) (by kernel_rfl) (by kernel_rfl) (fun _ _ _ h => h) (Or.inl ⟨by rfl, ?_⟩) (by assumption) ?_
            · (intro w hSw; (try dsimp only at hSw); go_simp)
            (try simp only [Act.put, List.getElem_toArray, List.getElem_cons_succ, List.getElem_cons_zero, List.setIfInBounds_toArray, List.set_cons_zero, List.set_cons_succ])
            refine wpAnyH_take (i := 18) (v := .bool false) rfl (by kernel_rfl) (by kernel_rfl) (by kernel_rfl) (fun _ _ _ h => h) (Or.inl ⟨by rfl, ?_⟩) (by assumption) ?_
            · (intro w hSw; (try dsimp only at hSw); go_simp)
            (try simp only [Act.put, List.getElem_toArray, List.getElem_cons_succ, List.getElem_cons_zero, List.setIfInBounds_toArray, List.set_cons_zero, List.set_cons_succ])
            refine wpAnyH_done (by kernel_rfl) ?_ _
            clear hHeld rg_y0 rg_r0 rg_r1 rg_e5 rg_e6b rg_e6
            have BN := hid (B10.out.trans (BX.out.mono B10.out.size))
            go_wp2_with fail
            refine ⟨⟨k + 1, by omega, by go_num, BN⟩, ?_⟩
            simp [intOf]; omega
    · obtain rfl : n = k := by omega
      have BE := hid (B2.out.trans (hB.out.mono B2.out.size))
      go_wp2_with fail
      go_ret
      exact ⟨rfl, BE.out⟩

theorem own : ownKnob Try.prog.godebug = none := by kernel_rfl
theorem laidOut : laidOutB Try.prog = true := by kernel_rfl

set_option maxRecDepth 100000 in
theorem lifted (os : Os) (started : os.Started) (H : Type) (enc : TypeId × Value → H) :
    ReturnsInHanded {} Try.checked os 5 .any (Rows.victimGuardsSpec.pre6 enc Try.prog Try.f5 Rows.victimGuardsRow.domain false) (Rows.victimGuardsSpec.post enc Try.prog Try.f5 false true false false) := by
  refine returnsInHanded_of_change_sized (C := Try.checked) own started (by kernel_rfl) Try.func5
    (ChangeSpec.witness6 (enc := enc) (C := Try.checked) false ⟨#[], #[.slice none 0 0, .slice none 0 0, .slice none 0 0], []⟩ 8 (by kernel_rfl) (by kernel_rfl) (by kernel_rfl) (by kernel_rfl)) ?_
  intro W base args ds gs before hval0 hW hcnd hsz0 _
  have hsz : (DataW.weightsEach Try.prog (Try.f5.params.toList ++ Rows.victimGuardsSpec.plain.varTypes Try.prog) (ds ++ gs)).all (· ≤ reachBytes) = true := hsz0
  have hval : ∀ (j : Nat) t v, Try.f5.params[j]? = some t → args[j]? = some v → Value.okWide Try.prog W .any base t v := hval0
  have hW' := hW
  obtain ⟨p, q, hA0, hV, rfl, hfz, hnd⟩ := hW
  have hA : DataW.TrodAll enc Try.prog W 0 (fun _ => true) true Try.f5.params.toList args.toList ds p := hA0
  rw [Try.params5] at hA hval hsz
  obtain ⟨v0, vs0, d0, ds0, p0, q0, hargs, rfl, rfl, h0, r0⟩ := trodAll_cons hA
  obtain ⟨v1, vs1, d1, ds1, p1, q1, rfl, rfl, rfl, h1, r1⟩ := trodAll_cons r0
  obtain ⟨v2, vs2, d2, ds2, p2, q2, rfl, rfl, rfl, h2, r2⟩ := trodAll_cons r1
  obtain ⟨rfl, rfl, rfl⟩ := trodAll_nil r2
  obtain rfl : args = #[v0, v1, v2] := by cases args; simp_all
  obtain ⟨rfl, rfl⟩ := trodVars_none hV
  have lt0 : ∀ x ∈ p0, x.block < W.heap.size := by obtain ⟨m, hm⟩ := h0; exact DataW.trod_lt m _ _ _ hm
  have lt1 : ∀ x ∈ p1, x.block < W.heap.size := by obtain ⟨m, hm⟩ := h1; exact DataW.trod_lt m _ _ _ hm
  have lt2 : ∀ x ∈ p2, x.block < W.heap.size := by obtain ⟨m, hm⟩ := h2; exact DataW.trod_lt m _ _ _ hm
  obtain ⟨a0, len0, cap0, rfl⟩ := okWide_slice Try.underlying30 (hval 0 30 v0 rfl rfl)
  obtain ⟨z0, w0, k0, dr0⟩ := val_rowE (k := 7) (en := Qu.cs) (ok := Qu.ok) Try.underlying30 (by kernel_rfl) Qu.cs_len (by decide) (fun _ _ _ h => trod_queue h) h0
  have s0 : cap0 * 56 ≤ 140737488351232 := sized_cap dr0 hsz (j := 0) rfl rfl Try.underlying30 (by kernel_rfl)
  obtain ⟨a1, len1, cap1, rfl⟩ := okWide_slice Try.underlying22 (hval 1 22 v1 rfl rfl)
  obtain ⟨z1, w1, k1, dr1, nest1, kb1⟩ := val_rowL Try.underlying22 h1
  have s1 : cap1 * 80 ≤ 140737488351232 := sized_cap dr1 hsz (j := 1) rfl rfl Try.underlying22 (by kernel_rfl)
  have n1 : ∀ q ∈ z1, q.sc * 8 ≤ 140737488351232 := nest1 (by rw [List.all_eq_true]; intro n hn; exact (List.all_eq_true.1 hsz) n (DataW.weights_mem_each (j := 1) rfl rfl n hn))
  obtain ⟨a2, len2, cap2, rfl⟩ := okWide_slice Try.underlying24 (hval 2 24 v2 rfl rfl)
  obtain ⟨z2, w2, k2, dr2⟩ := val_rowE (k := 3) (en := Us.cs) (ok := Us.ok) Try.underlying24 (by kernel_rfl) Us.cs_len (by decide) (fun _ _ _ h => trod_use h) h2
  have s2 : cap2 * 24 ≤ 140737488351232 := sized_cap dr2 hsz (j := 2) rfl rfl Try.underlying24 (by kernel_rfl)
  clear hA0 hval0
  refine (walk a0 len0 cap0 z0 a1 len1 cap1 z1 a2 len2 cap2 z2 W w0 k0 s0 w1 k1 kb1 s1 n1 w2 k2 s2).mono fun e W' ⟨he, bel⟩ => ?_
  subst he
  exact ⟨_, rfl, _, _, _, [], _, [], hW', trodAll_mk1 (shut_bool Try.underlying4 _), (trodAll_cons_mk (Below.trod laidOut (by kernel_rfl) (of_decide_eq_true (by kernel_rfl)) h0 bel lt0) (trodAll_cons_mk (Below.trod laidOut (by kernel_rfl) (of_decide_eq_true (by kernel_rfl)) h1 bel lt1) (trodAll_cons_mk (Below.trod laidOut (by kernel_rfl) (of_decide_eq_true (by kernel_rfl)) h2 bel lt2) trodAll_mk0))), rfl, bel.frame _, fun h => by cases h⟩

theorem over : Rows.victimGuardsRow.holds Try.pinned (OpenSpec.ofChange Rows.victimGuardsSpec) :=
  OpenClaim.holds_of_wide 5 Try.f5 rfl rfl rfl rfl rfl rfl rfl ⟨rfl, rfl, rfl, rfl, rfl⟩ rfl rfl rfl rfl rfl (by kernel_rfl) Try.func5 (by kernel_rfl)
    (of_decide_eq_true (by kernel_rfl)) (by unfold Func.isWrapper; first | (rw [if_pos (by decide +kernel)]; kernel_rfl) | (rw [if_neg (by decide +kernel)]; exact ⟨rfl, rfl⟩))
    (fun os started H enc _ => lifted os started H enc)

theorem proved : Rows.VictimGuardsSaid := over

end Go.Proofs.Ytdbkjcnanffibaa.victimGuards
