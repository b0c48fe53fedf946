/-
  Contracts of furlongref02: Less by lev, DocLess.
  The document's answers of drf: Rises, wanted, Check.
  The document's answers of drf: Pick.
  The document's answers of drf: Choose, Order.
  The document's answers of drf: Order.
-/
import Derived.Test.YtglifgnaecbniaaMX
import Derived.Test.YtglifgnaecbniaaMD
import Derived.Test.YtglifgnaecbniaaRC
import Derived.BigQuiet
import Derived.Deep.QuietTactic
namespace Go.Proofs.Ytglifgnaecbniaa
open Go.RowKit Go.Shelf
set_option linter.unusedVariables false
set_option linter.unusedSimpArgs false

theorem dom_num {c m p q : Int} (oc : okp c) (om : okp m) (op : okp p) (oq : okp q) : (dom c m p q).1 ≤ 1099511627776 := by
  have z : ∀ a b : Int, okp a → okp b → (shr a b).1 ≤ 1099511627776 := fun a b ha hb => by
    unfold okp at ha hb
    unfold shr; split
    · exact ha.2
    · split <;> decide
  unfold dom; split
  · exact z _ _ om oq
  · exact z _ _ oc op
theorem prod_bd {a b : Int} (a0 : 0 ≤ a) (a1 : a ≤ 1099511627776) (b0 : 0 ≤ b) (b1 : b ≤ 1099511627776) : 0 ≤ a * b ∧ a * b ≤ 1208925819614629174706176 := by
  refine ⟨Int.mul_nonneg a0 b0, ?_⟩
  have := Int.mul_le_mul a1 b1 b0 (by omega)
  exact Int.le_trans this (by decide)

theorem rless_any (c m x d k y p q : Int) (h : leok c m x d k y p q = true) (w : World) :
    Calls Try.prog 68 #[.agg #[.int .i64 c, .int .i64 m], .int .i64 x, .agg #[.int .i64 d, .int .i64 k], .int .i64 y, .agg #[.int .i64 p, .int .i64 q]] w fun e w' => e = .returned (.int .i64 (lev c m x d k y p q)) ∧ Below w.heap.size w w' := by
  obtain ⟨hok, hw⟩ : [(c, m), (d, k), (p, q)].all okv = true ∧ (okw x && okw y) = true := by unfold leok at h; simpa using h
  obtain ⟨o1, o2, o3⟩ : okv (c, m) = true ∧ okv (d, k) = true ∧ okv (p, q) = true := by simpa using hok
  obtain ⟨a1, a2⟩ := okv_true o1
  obtain ⟨a3, a4⟩ := okv_true o2
  obtain ⟨a5, a6⟩ := okv_true o3
  have hx : 1 ≤ x ∧ x ≤ 1048576 := by have : okw x = true := by simp at hw; exact hw.1
                                      simpa [okw] using this
  have hy : 1 ≤ y ∧ y ≤ 1048576 := by have : okw y = true := by simp at hw; exact hw.2
                                      simpa [okw] using this
  have f1 := dom_fr ⟨a1, a5⟩ ⟨a2, a6⟩
  have f2 := dom_fr ⟨a3, a5⟩ ⟨a4, a6⟩
  have u1 := dom_num a1 a2 a5 a6
  have u2 := dom_num a3 a4 a5 a6
  have SA := hid (fun w => rshare_any c m p q a1 a2 a5 a6 w)
  have SB := hid (fun w => rshare_any d k p q a3 a4 a5 a6 w)
  have E : lev c m x d k y p q = if (dom c m p q).2 = 0 ∨ (dom d k p q).2 = 0 then ord (dom d k p q).2 (dom c m p q).2 else ord ((dom c m p q).1 * (dom d k p q).2 * y) ((dom d k p q).1 * (dom c m p q).2 * x) := by
    have n1 := f1.1.2.1
    have n2 := f2.1.2.1
    unfold lev fc
    simp only
    generalize dom c m p q = F at *
    generalize dom d k p q = G at *
    obtain ⟨F0, F1⟩ := F; obtain ⟨G0, G1⟩ := G
    simp only at *
    by_cases hF : F1 = 0
    · subst hF
      rw [if_pos (Or.inl (Int.zero_mul x)), if_pos (Or.inl rfl), Int.zero_mul]
      by_cases hG : G1 = 0
      · subst hG; rw [Int.zero_mul]
      · have : 0 < G1 * y := Int.mul_pos (by omega) (by omega)
        unfold ord; rw [if_neg (by omega), if_pos (by omega), if_neg (by omega), if_pos (by omega)]
    · have pF : 0 < F1 * x := Int.mul_pos (by omega) (by omega)
      by_cases hG : G1 = 0
      · subst hG
        rw [if_pos (Or.inr (Int.zero_mul y)), if_pos (Or.inr rfl), Int.zero_mul]
        unfold ord; rw [if_pos (by omega), if_pos (by omega)]
      · have pG : 0 < G1 * y := Int.mul_pos (by omega) (by omega)
        rw [if_neg (by omega), if_neg (by omega), Int.mul_assoc, Int.mul_assoc]
  rw [E]
  have b1 := prod_bd f1.2.1 u1 f2.1.2.1 f2.2.2
  have b2 := prod_bd f2.2.1 u2 f1.1.2.1 f1.2.2
  have i1 : I64 (dom c m p q).2 := ⟨Int.le_trans (by decide) f1.1.2.1, f1.1.2.2⟩
  have i2 : I64 (dom d k p q).2 := ⟨Int.le_trans (by decide) f2.1.2.1, f2.1.2.2⟩
  exact rless_core c m x d k y p q _ _ _ _ _ _ w SA SB
    (hid (fun w => wtimes_any _ _ y _ f1.1.1 i2 rfl b1.1 b1.2 (by omega) (by omega) w))
    (hid (fun w => wtimes_any _ _ x _ f2.1.1 i1 rfl b2.1 b2.2 (by omega) (by omega) w)) f1.1.2.1 f2.1.2.1

theorem chks3_ok {a b c : Int × Int} (h : [a, b, c].all okv = true) : chks [a, b, c] = 0 := by unfold chks; rw [if_pos h]
theorem chks3_no {a b c : Int × Int} (h : [a, b, c].all okv = false) : chks [a, b, c] = 1 := by unfold chks; rw [h]; rfl

end Go.Proofs.Ytglifgnaecbniaa

namespace Go.Proofs.Ytglifgnaecbniaa
open Go.RowKit Go.Deep Go.Maps Go.Shelf
set_option linter.unusedVariables false
set_option linter.unusedSimpArgs false

set_option maxRecDepth 100000 in
set_option maxHeartbeats 2000000 in
theorem rrises_any (a : Option Addr) (len ca : Nat) (l : List Int) (w : World) (h : HoldsN w a len ca l) :
    Calls Try.prog 64 #[.slice a len ca] w fun e w' => e = .returned (.bool (riseB l)) ∧ Below w.heap.size w w' := by
  have HH := hid h
  have HL := hid h.1
  have hcap := h.2.1
  have hcm := h.2.2.1
  clear h
  go_enter Try.func64, Try.ntmps64
  go_wp2_with fail
  go_loopw [6] (fun i wr => ∃ k : Nat, k ≤ len ∧ i = .int .i64 k ∧ Hid (∀ j, j + 1 < k → na l j < na l (j + 1)) ∧ Hid (Below w.heap.size w wr)) (fun i _ => len - (intOf i).toNat)
  case atStart => exact ⟨0, by omega, rfl, fun j hj => by omega, Below.refl _ _⟩
  case round =>
    obtain ⟨k, hk, rfl, hgo, hB⟩ := hrel
    by_cases hlt : k < len
    · obtain ⟨wb, wo, rfl, R⟩ := HH.out.rowA (by omega)
      rcases Nat.eq_zero_or_pos k with rfl | hp
      · have HB := hid (fun n => below_drewN hB.out n)
        go_wp2_with fail
        go_quiet (fail)
        go_wp2
        go_roundw
        case rel => exact ⟨1, by omega, by go_num, fun j hj => by omega, HB.out _⟩
        case measure => simp [intOf]; omega
      · obtain ⟨m, rfl⟩ : ∃ m, k = m + 1 := ⟨k - 1, by omega⟩
        have c0 := keepc hB.out (R m (by omega))
        have c1 := keepc hB.out (R (m + 1) hlt)
        clear R
        have hlt' : m + 1 < l.length := by rw [HL.out]; exact hlt
        have GO : Hid (na l m < na l (m + 1) → ∀ j, j + 1 < m + 1 + 1 → na l j < na l (j + 1)) := fun h j hj => by
          rcases Nat.lt_or_ge j m with h1 | h1
          · exact hgo.out j (by omega)
          · rw [show j = m by omega]; exact h
        have NO : Hid (¬ na l m < na l (m + 1) → riseB l = false) := fun h => riseB_no hlt' h
        generalize na l m = x at *
        generalize na l (m + 1) = y at *
        have e1 : ((m + 1 : Nat) : Int) = (m : Int) + 1 := by omega
        have e2 : ((m : Int) + 1 - 1) = (m : Int) := by omega
        have g0 : decide ((0 : Int) < ((m + 1 : Nat) : Int)) = true := decide_eq_true (by omega)
        have g1 : (0 : Int) ≤ (m : Int) := by omega
        have g2 : (m : Int) < (len : Int) := by omega
        have g3 : IntKind.i64.wrap (((m + 1 : Nat) : Int) - 1) = (m : Int) := by rw [IntKind.wrap_i64]; omega
        have g4 : (0 : Int) ≤ ((m + 1 : Nat) : Int) := by omega
        have g5 : ((m + 1 : Nat) : Int) < (len : Int) := by omega
        have HB := hid (fun n => below_drewN hB.out n)
        clear e1 e2 hgo
        by_cases hxy : x < y
        · have t : decide (y ≤ x) = false := by simp; omega
          have G := hid (GO.out hxy)
          clear GO NO hxy
          go_wp2_with fail
          go_quiet (fail)
          go_wp2
          go_roundw
          case rel => exact ⟨m + 1 + 1, by omega, by go_num, G, HB.out _⟩
          case measure => simp [intOf]; omega
        · have t : decide (y ≤ x) = true := by simp; omega
          have G := hid (NO.out hxy)
          clear GO NO hxy
          go_wp2_with fail
          go_quiet (fail)
          go_wp2
          go_ret
          exact ⟨retb G.out.symm, HB.out _⟩
    · have G : Hid (riseB l = true) := riseB_iff.2 (fun j hj => hgo.out j (by have := HL.out; omega))
      have HB := hid hB.out
      go_wp2
      go_ret
      exact ⟨retb G.out.symm, HB.out⟩

def wantB (l : List Qu) (ws : List Int) (id : Int) : Bool := ws.any (fun x => underB l (pl l id) x)
theorem want_wait {l : List Qu} {ws : List Int} (hC : chkE l = 0) (hall : ∀ y ∈ ws, hasQ l y = true) {i : Nat} (hi : i < l.length) : wantB l ws (qa l i).id = true ↔ waitF l ws (qa l i).id ≠ 0 := by
  have hF := (chkE_ok.1 hC).2.1
  unfold wantB
  rw [wait_pos, List.any_eq_true, hF.pl hi]
  constructor
  · rintro ⟨x, hx, hh⟩
    exact ⟨x, hx, (up_mem hC (hall x hx) hi).2 (of_decide_eq_true hh)⟩
  · rintro ⟨x, hx, hh⟩
    exact ⟨x, hx, decide_eq_true ((up_mem hC (hall x hx) hi).1 hh)⟩

set_option maxRecDepth 100000 in
set_option maxHeartbeats 2000000 in
theorem wanted_any (lb lo len cap : Nat) (l : List Qu) (wa : Option Addr) (n wc : Nat) (ws : List Int) (id : Int) (w : World) (h : HoldsQ w (some ⟨lb, lo, none⟩) len cap l) (hm : len ≤ 64) (hF : Form l) (hw : HoldsN w wa n wc ws) (hall : ∀ y ∈ ws, hasQ l y = true) (hi : pl l id < l.length) :
    Calls Try.prog 67 #[.slice (some ⟨lb, lo, none⟩) len cap, .slice wa n wc, .int .i64 id] w fun e w' => e = .returned (.bool (wantB l ws id)) ∧ Below w.heap.size w w' := by
  have HH := hid h
  have HW := hid hw
  have HA := hid hall
  have HF := hid hF
  have HI := hid hi
  have HL := hid hw.1
  have hcap := hw.2.1
  have hcm := hw.2.2.1
  clear h hw hall hF hi
  go_enter Try.func67, Try.ntmps67
  go_wp2_with fail
  go_loopw [11] (fun i wr => ∃ k : Nat, k ≤ n ∧ i = .int .i64 k ∧ Hid ((ws.take k).any (fun x => underB l (pl l id) x) = false) ∧ Hid (Below w.heap.size w wr)) (fun i _ => n - (intOf i).toNat)
  case atStart => exact ⟨0, by omega, rfl, by simp [Hid], Below.refl _ _⟩
  case round =>
    obtain ⟨k, hk, rfl, hgo, hB⟩ := hrel
    by_cases hlt : k < n
    · have hlt' : k < ws.length := by rw [HL.out]; exact hlt
      obtain ⟨wb, wo, rfl, R⟩ := HW.out.rowA (by omega)
      have c0 := keepc hB.out (R k hlt)
      clear R
      have NX := hid (fun h => any_take_na (f := fun x => underB l (pl l id) x) hlt' hgo.out h)
      have NO : Hid (underB l (pl l id) (na ws k) = true → wantB l ws id = true) := fun h => List.any_eq_true.2 ⟨_, na_mem hlt', h⟩
      have BS := hid (under_any lb lo len cap l (na ws k) id wr (HH.out.below hB.out) hm HF.out (of_decide_eq_true (HA.out _ (na_mem hlt'))) HI.out)
      have ka : (0 : Int) ≤ (k : Int) := by omega
      have kb : (k : Int) < (n : Int) := by omega
      generalize na ws k = x at *
      cases hx : underB l (pl l id) x
      · have NG := hid (NX.out hx)
        rw [hx] at BS
        clear NX NO hx
        go_wp2_with fail
        refine BS.out.mono ?_
        rintro e w2 ⟨rfl, b2⟩
        have B2 := hid (hB.out.trans (b2.mono hB.out.size))
        go_wp2
        go_roundw
        case rel => exact ⟨k + 1, by omega, by go_num, NG, B2⟩
        case measure => simp [intOf]; omega
      · have EN := hid (NO.out hx)
        rw [hx] at BS
        clear NX NO hx
        go_wp2_with fail
        refine BS.out.mono ?_
        rintro e w2 ⟨rfl, b2⟩
        have B2 := hid (hB.out.trans (b2.mono hB.out.size))
        go_wp2
        go_ret
        exact ⟨retb EN.out.symm, B2.out⟩
    · have EY : Hid (wantB l ws id = false) := by have h := hgo.out; rw [List.take_of_length_le (by rw [HL.out]; omega)] at h; exact h
      have B2 := hid hB.out
      go_wp2
      go_ret
      exact ⟨retb EY.out.symm, B2.out⟩

def readV (l : List Qu) (us : List Us) (ws : List Int) (tc tm : Int) : List (Int × Int) := if readE l us ws tc tm = 0 then vecsTo l us l.length else []
theorem readV_no {l : List Qu} {us : List Us} {ws : List Int} {tc tm e : Int} (h : readE l us ws tc tm = e) (he : e ≠ 0) : readV l us ws tc tm = [] := by unfold readV; rw [if_neg (by rw [h]; exact he)]
theorem retV {v : Value} {a b : Int} (h : a = b) : Ending.returned (.tuple #[v, .int .i64 a]) = .returned (.tuple #[v, .int .i64 b]) := by rw [h]

set_option maxRecDepth 100000 in
set_option maxHeartbeats 4000000 in
theorem rcheck6_any (a : Option Addr) (len cap : Nat) (l : List Qu) (ub : Option Addr) (n uc : Nat) (us : List Us) (wa : Option Addr) (wn wc : Nat) (ws : List Int) (tc tm : Int) (w : World) (h : HoldsQ w a len cap l) (hu : HoldsU w ub n uc us) (hw : HoldsN w wa wn wc ws) :
    Calls Try.prog 36 #[.slice a len cap, .slice ub n uc, .slice wa wn wc, .agg #[.int .i64 tc, .int .i64 tm]] w fun e w' => ∃ v, e = .returned (.tuple #[v, .int .i64 (readE l us ws tc tm)]) ∧ OwnV w.heap.size w' v (readV l us ws tc tm).length (readV l us ws tc tm) ∧ Below w.heap.size w w' := by
  have HH := hid h
  have HW := hid hw
  have WL := hid hw.1
  have hcap := hw.2.1
  have hcm := hw.2.2.1
  have hLe := hid h.1
  have b0 : Below w.heap.size w (w.alloc (.cells #[.int .i64 tc, .int .i64 tm] 26)) := (Below.refl _ w).alloc (Nat.le_refl _) _
  have SU := hid (rsums_any a len cap l ub n uc us (w.alloc (.cells #[.int .i64 tc, .int .i64 tm] 26)) (h.below b0) (hu.below b0))
  have B0 := hid b0
  have m0 : (w.alloc (.cells #[.int .i64 tc, .int .i64 tm] 26)).cell? ⟨w.heap.size, 0, none⟩ = some (.int .i64 tc) := by simp [go_sem]
  have m1 : (w.alloc (.cells #[.int .i64 tc, .int .i64 tm] 26)).cell? ⟨w.heap.size, 1, none⟩ = some (.int .i64 tm) := by simp [go_sem]
  have M0 := hid m0
  have M1 := hid m1
  clear h hu hw b0 m0 m1
  have NIL := hid (fun W => OwnE.nil 26 2 encV w.heap.size W)
  by_cases hS : sumsE l us = 0
  case neg =>
    have E : readE l us ws tc tm = sumsE l us := by unfold readE; rw [if_pos hS]
    have V := readV_no E hS
    have EE := hid E
    have VV := hid V
    have t : (sumsE l us != 0) = true := by simpa using hS
    clear E V hS
    generalize sumsE l us = SE at *
    go_enter Try.func36, Try.ntmps36
    go_wp2_with fail
    refine SU.out.mono ?_
    rintro e w1 ⟨v1, rfl, o1, b1⟩
    have B1 := hid (B0.out.trans (b1.mono B0.out.size))
    clear o1 b1
    go_wp2
    go_ret2
    exact ⟨_, retV EE.out.symm, by rw [VV.out]; exact NIL.out _, B1.out⟩
  rw [hS] at SU
  have hG := chkE_ok.1 (sumsE_zero hS).1
  have hle : len ≤ 64 := by rw [← hLe.out]; exact hG.1
  have hpos : 0 < len := by rw [← hLe.out]; exact hG.2.1.1
  have GA := hid (fun W => good_any tc tm W)
  cases hT : okv (tc, tm)
  case false =>
    have EE : Hid (readE l us ws tc tm = 1) := by unfold Hid readE; rw [if_neg (by rw [hS]; decide), if_pos hT]
    have VV := hid (readV_no EE.out (by decide))
    rw [hT] at GA
    clear hS hG hT
    go_enter Try.func36, Try.ntmps36
    go_wp2_with fail
    refine SU.out.mono ?_
    rintro e w1 ⟨v1, rfl, o1, b1⟩
    have B1 := hid (B0.out.trans (b1.mono B0.out.size))
    have m0 := keepc b1 M0.out
    have m1 := keepc b1 M1.out
    clear o1 b1
    go_wp2_with fail
    refine (GA.out _).mono ?_
    rintro e w2 ⟨rfl, b2⟩
    have B2 := hid (B1.out.trans (b2.mono B1.out.size))
    clear b2 m0 m1
    go_wp2
    go_ret2
    exact ⟨_, retV EE.out.symm, by rw [VV.out]; exact NIL.out _, B2.out⟩
  rw [hT] at GA
  have RI := hid (fun W (hW : Below w.heap.size w W) => rrises_any wa wn wc ws W (HW.out.below hW))
  cases hr : riseB ws
  case false =>
    have EE : Hid (readE l us ws tc tm = 4) := by unfold Hid readE; rw [if_neg (by rw [hS]; decide), if_neg (by rw [hT]; decide), if_pos hr]
    have VV := hid (readV_no EE.out (by decide))
    rw [hr] at RI
    clear hS hG hT hr
    go_enter Try.func36, Try.ntmps36
    go_wp2_with fail
    refine SU.out.mono ?_
    rintro e w1 ⟨v1, rfl, o1, b1⟩
    have B1 := hid (B0.out.trans (b1.mono B0.out.size))
    have m0 := keepc b1 M0.out
    have m1 := keepc b1 M1.out
    clear o1 b1
    go_wp2_with fail
    refine (GA.out _).mono ?_
    rintro e w2 ⟨rfl, b2⟩
    have B2 := hid (B1.out.trans (b2.mono B1.out.size))
    clear b2 m0 m1
    go_wp2_with fail
    refine (RI.out _ B2.out).mono ?_
    rintro e w3 ⟨rfl, b3⟩
    have B3 := hid (B2.out.trans (b3.mono B2.out.size))
    clear b3
    go_wp2
    go_ret2
    exact ⟨_, retV EE.out.symm, by rw [VV.out]; exact NIL.out _, B3.out⟩
  rw [hr] at RI
  by_cases h0 : wn = 0
  · have EE : Hid (readE l us ws tc tm = 8) := by unfold Hid readE; rw [if_neg (by rw [hS]; decide), if_neg (by rw [hT]; decide), if_neg (by rw [hr]; decide), if_pos (by rw [WL.out]; exact h0)]
    have VV := hid (readV_no EE.out (by decide))
    subst h0
    clear hS hG hT hr
    go_enter Try.func36, Try.ntmps36
    go_wp2_with fail
    refine SU.out.mono ?_
    rintro e w1 ⟨v1, rfl, o1, b1⟩
    have B1 := hid (B0.out.trans (b1.mono B0.out.size))
    have m0 := keepc b1 M0.out
    have m1 := keepc b1 M1.out
    clear o1 b1
    go_wp2_with fail
    refine (GA.out _).mono ?_
    rintro e w2 ⟨rfl, b2⟩
    have B2 := hid (B1.out.trans (b2.mono B1.out.size))
    clear b2 m0 m1
    go_wp2_with fail
    refine (RI.out _ B2.out).mono ?_
    rintro e w3 ⟨rfl, b3⟩
    have B3 := hid (B2.out.trans (b3.mono B2.out.size))
    clear b3
    go_wp2
    go_ret2
    exact ⟨_, retV EE.out.symm, by rw [VV.out]; exact NIL.out _, B3.out⟩
  have t0 : ((wn : Int) == 0) = false := by simp; omega
  have hl0 : ws.length ≠ 0 := by rw [WL.out]; exact h0
  have ENO : Hid (allThere l ws = false → readE l us ws tc tm = 8) := fun h => by unfold readE; rw [if_neg (by rw [hS]; decide), if_neg (by rw [hT]; decide), if_neg (by rw [hr]; decide), if_neg hl0, if_pos h]
  have ELF : Hid (allThere l ws = true → allLeaf l ws = false → readE l us ws tc tm = 14) := fun h h2 => by unfold readE; rw [if_neg (by rw [hS]; decide), if_neg (by rw [hT]; decide), if_neg (by rw [hr]; decide), if_neg hl0, if_neg (by rw [h]; decide), if_pos h2]
  have EOK : Hid (allThere l ws = true → allLeaf l ws = true → readE l us ws tc tm = 0) := fun h h2 => by unfold readE; rw [if_neg (by rw [hS]; decide), if_neg (by rw [hT]; decide), if_neg (by rw [hr]; decide), if_neg hl0, if_neg (by rw [h]; decide), if_neg (by rw [h2]; decide)]
  have hsR : sumsR l us = vecsTo l us len := by unfold sumsR; rw [if_pos hS, hLe.out]
  rw [hsR] at SU
  have HAS := hid (fun id W (hW : Below w.heap.size w W) => rhas_any a len cap l id W (HH.out.below hW))
  obtain ⟨lb, lo, rfl, hRow⟩ := HH.out.row hpos
  have LEA := hid (fun id W (hW : Below w.heap.size w W) => rleaf_any lb lo len cap l id W (HH.out.below hW) hpos hle)
  have LFB : Hid (∀ x, hasN (leavesR l) x = (hasQ l x && leafB l x)) := fun x => by
    unfold leavesR
    rw [if_pos (sumsE_zero hS).1]
    have hF := hG.2.1
    rw [Bool.eq_iff_iff, hasN_iff, Bool.and_eq_true]
    unfold idsAt leafs
    rw [List.mem_map]
    constructor
    · rintro ⟨i, hi, rfl⟩
      exact ⟨hasQ_iff.2 ⟨i.val, i.2, rfl⟩, (List.mem_filter.1 hi).2⟩
    · rintro ⟨h1, h2⟩
      obtain ⟨i, hi, rfl⟩ := hasQ_iff.1 h1
      exact ⟨⟨i, hi⟩, List.mem_filter.2 ⟨List.mem_finRange _, h2⟩, rfl⟩
  clear hS hG hT hr hl0 hRow
  obtain ⟨xb, xo, rfl, R⟩ := HW.out.rowA (by omega)
  have RR := hid R
  clear R
  go_enter Try.func36, Try.ntmps36
  go_wp2_with fail
  refine SU.out.mono ?_
  rintro e w1 ⟨v1, rfl, o1, b1⟩
  have B1 := hid (B0.out.trans (b1.mono B0.out.size))
  have m0 := keepc b1 M0.out
  have m1 := keepc b1 M1.out
  have O1 := hid (o1.weaken (b' := w.heap.size) B0.out.size)
  clear o1 b1
  go_wp2_with fail
  refine (GA.out _).mono ?_
  rintro e w2 ⟨rfl, b2⟩
  have B2 := hid (B1.out.trans (b2.mono B1.out.size))
  have O2 := hid (O1.out.below b2)
  clear b2 m0 m1 O1
  go_wp2_with fail
  refine (RI.out _ B2.out).mono ?_
  rintro e w3 ⟨rfl, b3⟩
  have B3 := hid (B2.out.trans (b3.mono B2.out.size))
  have O3 := hid (O2.out.below b3)
  clear b3 O2
  go_wp2_with fail
  go_loopw [40] (fun i wr => ∃ k : Nat, k ≤ wn ∧ i = .int .i64 k ∧ Hid ((ws.take k).all (hasQ l) = true) ∧ Hid (Below w3.heap.size w3 wr)) (fun i _ => wn - (intOf i).toNat)
  case atStart => exact ⟨0, by omega, rfl, by simp [Hid], Below.refl _ _⟩
  case round =>
    obtain ⟨k, hk, rfl, hgo, hB⟩ := hrel
    by_cases hlt : k < wn
    · have hlt' : k < ws.length := by rw [WL.out]; exact hlt
      have c0 := keepc (B3.out.trans (hB.out.mono B3.out.size)) (RR.out k hlt)
      have NX := hid (fun h => all_take_na (f := hasQ l) hlt' hgo.out h)
      have NO : Hid (hasQ l (na ws k) = false → readE l us ws tc tm = 8) := fun h => ENO.out (all_no_na (f := hasQ l) hlt' h)
      have BS := hid (HAS.out (na ws k) wr (B3.out.trans (hB.out.mono B3.out.size)))
      have ka : (0 : Int) ≤ (k : Int) := by omega
      have kb : (k : Int) < (wn : Int) := by omega
      generalize na ws k = x at *
      cases hx : hasQ l x
      · have EE := hid (NO.out hx)
        have VV := hid (readV_no EE.out (by decide))
        rw [hx] at BS
        clear NX NO hx
        go_wp2_with fail
        refine BS.out.mono ?_
        rintro e w4 ⟨rfl, b4⟩
        have B4 := hid (B3.out.trans ((hB.out.trans (b4.mono hB.out.size)).mono B3.out.size))
        go_wp2
        go_ret2
        exact ⟨_, retV EE.out.symm, by rw [VV.out]; exact NIL.out _, B4.out⟩
      · have NG := hid (NX.out hx)
        rw [hx] at BS
        clear NX NO hx
        go_wp2_with fail
        refine BS.out.mono ?_
        rintro e w4 ⟨rfl, b4⟩
        have B4 := hid (hB.out.trans (b4.mono hB.out.size))
        go_wp2
        go_roundw
        case rel => exact ⟨k + 1, by omega, by go_num, NG, B4⟩
        case measure => simp [intOf]; omega
    · have TH : Hid (allThere l ws = true) := by have h := hgo.out; rw [List.take_of_length_le (by rw [WL.out]; omega)] at h; exact h
      have W5 := hid (B3.out.trans (hB.out.mono B3.out.size))
      have O5 := hid (O3.out.below hB.out)
      clear hB hgo
      rename World => w5
      go_wp2_with fail
      go_loopw [51] (fun i wr => ∃ k : Nat, k ≤ wn ∧ i = .int .i64 k ∧ Hid ((ws.take k).all (fun x => hasN (leavesR l) x) = true) ∧ Hid (Below w5.heap.size w5 wr)) (fun i _ => wn - (intOf i).toNat)
      case atStart => exact ⟨0, by omega, rfl, by simp [Hid], Below.refl _ _⟩
      case round =>
        obtain ⟨k, hk, rfl, hgo, hB⟩ := hrel
        by_cases hlt : k < wn
        · have hlt' : k < ws.length := by rw [WL.out]; exact hlt
          have c0 := keepc (W5.out.trans (hB.out.mono W5.out.size)) (RR.out k hlt)
          have NX := hid (fun h => all_take_na (f := fun x => hasN (leavesR l) x) hlt' hgo.out h)
          have NO : Hid (hasN (leavesR l) (na ws k) = false → readE l us ws tc tm = 14) := fun h => ELF.out TH.out (all_no_na (f := fun x => hasN (leavesR l) x) hlt' h)
          have BS := hid (LEA.out (na ws k) wr (W5.out.trans (hB.out.mono W5.out.size)))
          rw [← LFB.out] at BS
          have ka : (0 : Int) ≤ (k : Int) := by omega
          have kb : (k : Int) < (wn : Int) := by omega
          generalize na ws k = x at *
          cases hx : hasN (leavesR l) x
          · have EE := hid (NO.out hx)
            have VV := hid (readV_no EE.out (by decide))
            rw [hx] at BS
            clear NX NO hx
            go_wp2_with fail
            refine BS.out.mono ?_
            rintro e w4 ⟨rfl, b4⟩
            have B4 := hid (W5.out.trans ((hB.out.trans (b4.mono hB.out.size)).mono W5.out.size))
            go_wp2
            go_ret2
            exact ⟨_, retV EE.out.symm, by rw [VV.out]; exact NIL.out _, B4.out⟩
          · have NG := hid (NX.out hx)
            rw [hx] at BS
            clear NX NO hx
            go_wp2_with fail
            refine BS.out.mono ?_
            rintro e w4 ⟨rfl, b4⟩
            have B4 := hid (hB.out.trans (b4.mono hB.out.size))
            go_wp2
            go_roundw
            case rel => exact ⟨k + 1, by omega, by go_num, NG, B4⟩
            case measure => simp [intOf]; omega
        · have LF : allLeaf l ws = true := by have h := hgo.out; rw [List.take_of_length_le (by rw [WL.out]; omega)] at h; exact h
          have EE := hid (EOK.out TH.out LF)
          have VV : Hid (readV l us ws tc tm = vecsTo l us len) := by unfold Hid readV; rw [if_pos EE.out, hLe.out]
          have O6 := hid (O5.out.below hB.out)
          have B6 := hid (W5.out.trans (hB.out.mono W5.out.size))
          clear LF
          go_wp2
          go_ret2
          exact ⟨_, retV EE.out.symm, by rw [VV.out]; exact O6.out, B6.out⟩
end Go.Proofs.Ytglifgnaecbniaa

namespace Go.Proofs.Ytglifgnaecbniaa
open Go.RowKit Go.Deep Go.Maps Go.Shelf
set_option linter.unusedVariables false
set_option linter.unusedSimpArgs false

theorem run_wt (a b c d e f g : Int) (w : World) : Sem.run Try.prog (Instr.field 42 (.agg #[.int .i64 a, .int .i64 b, .int .i64 c, .int .i64 d, .int .i64 e, .int .i64 f, .int .i64 g]) 2) w = .ok (.int .i64 c) w := by kernel_rfl
/-- The Id at a place; -1: none. -/
def bid (l : List Qu) (b : Int) : Int := if b = -1 then -1 else (qa l b.toNat).id
/-- Where somebody waits, a leaf is just where nobody below waits. -/
theorem leaf_stop {l : List Qu} {us : List Us} {tc tm : Int} {ws : List Int} (hE : readE l us ws tc tm = 0) {h : Nat} (hh : h < l.length) (hf : waitF l ws (qa l h).id ≠ 0) : leafB l (qa l h).id = true ↔ bstI l us tc tm (waitF l ws) (qa l h).id l.length = -1 := by
  obtain ⟨hS, ht, hr, h0, hth, hlf⟩ := readE_zero hE
  have hC := (sumsE_zero hS).1
  have hF := (chkE_ok.1 hC).2.1
  have hall : ∀ y ∈ ws, hasQ l y = true := by unfold allThere at hth; rwa [List.all_eq_true] at hth
  have hle : ∀ y ∈ ws, hasN (leavesR l) y = true := by unfold allLeaf at hlf; rwa [List.all_eq_true] at hlf
  constructor
  · intro hL
    rcases bst_form l us tc tm (waitF l ws) (qa l h).id l.length with hn | ⟨b, hb, _, hbp, _⟩
    · exact hn
    · exfalso
      unfold leafB kids at hL
      rw [List.isEmpty_iff] at hL
      have : (⟨b, hb⟩ : Fin l.length) ∈ (List.finRange l.length).filter (fun i : Fin l.length => decide ((qa l i.val).par = (qa l h).id)) := List.mem_filter.2 ⟨List.mem_finRange _, by simpa using hbp⟩
      rw [hL] at this
      cases this
  · intro hn
    obtain ⟨x, hx, hxu⟩ := wait_pos.1 hf
    have hxP : pl l x < l.length := of_decide_eq_true (hall x hx)
    have hPm := (up_mem hC (hall x hx) hh).1 hxu
    by_cases e : h = pl l x
    · have h1 := hle x hx
      rw [hasN_iff] at h1
      unfold leavesR at h1
      rw [if_pos hC] at h1
      unfold idsAt leafs at h1
      obtain ⟨i, hi, hie⟩ := List.mem_map.1 h1
      have h2 := (List.mem_filter.1 hi).2
      rw [e, pl_id hxP, ← hie]
      exact h2
    · exfalso
      have hw := way_child hF hh 1 (pl l x) hxP
      rw [if_pos ⟨hPm, e⟩] at hw
      have : ∃ k, k < l.length ∧ (qa l k).par = (qa l h).id ∧ k ∈ pth l (pl l x) := by
        refine Classical.byContradiction (fun hne => ?_)
        rw [sumI_zero (fun k hk => if_neg (fun hc => hne ⟨k, hk, hc⟩))] at hw
        cases hw
      obtain ⟨k, hk, hkp, hkm⟩ := this
      exact bst_some hk hkp (wait_pos.2 ⟨x, hx, (up_mem hC (hall x hx) hk).2 hkm⟩) hn

set_option maxRecDepth 100000 in
set_option maxHeartbeats 16000000 in
theorem rpick_any (lb lo len cap : Nat) (l : List Qu) (sb so sc : Nat) (us : List Us) (wa : Option Addr) (wn wc : Nat) (ws : List Int) (tc tm : Int) (w : World) (h : HoldsQ w (some ⟨lb, lo, none⟩) len cap l) (hok : ∀ q ∈ l, q.ok) (hv : HoldsV w (some ⟨sb, so, none⟩) len sc (vecsTo l us len)) (hw : HoldsN w wa wn wc ws) (hE : readE l us ws tc tm = 0) :
    Calls Try.prog 37 #[.slice (some ⟨lb, lo, none⟩) len cap, .slice (some ⟨sb, so, none⟩) len sc, .slice wa wn wc, .agg #[.int .i64 tc, .int .i64 tm]] w fun e w' => e = .returned (.int .i64 (qa l (desc l us tc tm (waitF l ws) 0)).id) ∧ Below w.heap.size w w' := by
  obtain ⟨hS, hT, hr, h0, hth, hlf⟩ := readE_zero hE
  have hC := (sumsE_zero hS).1
  have hG := chkE_ok.1 hC
  have hall : ∀ y ∈ ws, hasQ l y = true := by unfold allThere at hth; rwa [List.all_eq_true] at hth
  have HLl := hid h.1
  have lcap := h.2.1
  have hle : len ≤ 64 := by rw [← HLl.out]; exact hG.1
  have hpos : 0 < len := by rw [← HLl.out]; exact hG.2.1.1
  have HF := hid hG.2.1
  have HA := hid hG.2.2.1
  have hFt := hid (sumsE_zero hS).2
  have HT := hid hT
  have HE := hid hE
  have HC := hid hC
  have HAL := hid hall
  have HO := hid hok
  have HH := hid h
  have HV := hid hv
  have HW := hid hw
  have hroot : waitF l ws (qa l 0).id ≠ 0 := by
    obtain ⟨y, hy⟩ : ∃ y, y ∈ ws := by
      cases ws with
      | nil => simp at h0
      | cons y r => exact ⟨y, List.mem_cons_self ..⟩
    exact wait_pos.2 ⟨y, hy, (up_mem hC (hall y hy) hG.2.1.1).2 (root_way hG.2.1 _ (of_decide_eq_true (hall y hy)))⟩
  have hr0 : (qa l 0).id = 0 := hG.2.1.root.1
  have HR0 := hid hroot
  have ER := hid hr0
  have LEA := hid (fun id W (hW : Below w.heap.size w W) => rleaf_any lb lo len cap l id W (HH.out.below hW) hpos hle)
  have hR : RowQ w lb lo l := by
    obtain ⟨b', o', e, hR⟩ := h.row hpos
    cases e; exact hR
  have HR := hid hR
  have m0 : (w.alloc (.cells #[.int .i64 tc, .int .i64 tm] 26)).cell? ⟨w.heap.size, 0, none⟩ = some (.int .i64 tc) := by simp [go_sem]
  have m1 : (w.alloc (.cells #[.int .i64 tc, .int .i64 tm] 26)).cell? ⟨w.heap.size, 1, none⟩ = some (.int .i64 tm) := by simp [go_sem]
  have M0 := hid m0
  have M1 := hid m1
  have B0 : Hid (Below w.heap.size w (w.alloc (.cells #[.int .i64 tc, .int .i64 tm] 26))) := (Below.refl _ w).alloc (Nat.le_refl _) _
  clear h hok hv hw hE hS hT hr h0 hth hlf hC hG hall hroot hr0 hR m0 m1
  go_enter Try.func37, Try.ntmps37
  go_wp2_with fail
  generalize (w.alloc (.cells #[.int .i64 tc, .int .i64 tm] 26)) = w0 at *
  go_loopw [9] (fun x wr => ∃ h : Nat, h < len ∧ x = .int .i64 (qa l h).id ∧ Hid (desc l us tc tm (waitF l ws) 0 = desc l us tc tm (waitF l ws) h) ∧ Hid (waitF l ws (qa l h).id ≠ 0) ∧ Hid (Below w0.heap.size w0 wr)) (fun x _ => len - pl l (intOf x))
  case atStart => exact ⟨0, hpos, by rw [ER.out], rfl, HR0, Below.refl _ _⟩
  case round =>
    obtain ⟨h, hh, rfl, hD, hf, hB⟩ := hrel
    have hh' : h < l.length := by rw [HLl.out]; exact hh
    have LE := hid (LEA.out (qa l h).id wr (B0.out.trans (hB.out.mono B0.out.size)))
    rw [hasQ_iff.2 ⟨h, hh', rfl⟩, Bool.true_and] at LE
    have LS := hid (leaf_stop HE.out hh' hf.out)
    cases hL : leafB l (qa l h).id
    case true =>
      have DS := hid (hD.out.trans (desc_stop (LS.out.1 hL)))
      rw [hL] at LE
      clear hL
      go_wp2_with fail
      refine LE.out.mono ?_
      rintro e w2 ⟨rfl, b2⟩
      have B2 := hid (B0.out.trans ((hB.out.trans (b2.mono hB.out.size)).mono B0.out.size))
      go_wp2
      go_ret
      exact ⟨ret1 (by rw [DS.out]), B2.out⟩
    case false =>
      have NS : bstI l us tc tm (waitF l ws) (qa l h).id l.length ≠ -1 := fun e => by have := LS.out.2 e; rw [hL] at this; cases this
      obtain ⟨b, hb, hbe, hbp, hbf⟩ : ∃ b : Nat, b < l.length ∧ bstI l us tc tm (waitF l ws) (qa l h).id l.length = (b : Int) ∧ (qa l b).par = (qa l h).id ∧ waitF l ws (qa l b).id ≠ 0 := by
        rcases bst_form l us tc tm (waitF l ws) (qa l h).id l.length with hn | hx
        · exact absurd hn NS
        · exact hx
      have DS := desc_step HF.out hh' hb hbe hbp
      have DD := hid (hD.out.trans DS.2)
      have HHB := hid DS.1
      have HBF := hid hbf
      have HBE := hid hbe
      have HBL : Hid (b < len) := by unfold Hid; rw [← HLl.out]; exact hb
      rw [hL] at LE
      have HPL := hid (HF.out.pl hh')
      have HPB := hid (HF.out.pl hb)
      clear hL NS DS hbe hbp hbf LS hD
      have IQ := qa_ok HO.out h
      go_wp2_with fail
      refine LE.out.mono ?_
      rintro e w2 ⟨rfl, b2⟩
      have WB := hid (hB.out.trans (b2.mono hB.out.size))
      clear b2 hB LE
      go_wp2_with fail
      go_loopw [19, 10] (fun x b wr => ∃ k : Nat, k ≤ len ∧ x = .int .i64 (k : Int) ∧ b = .int .i64 (bid l (bstI l us tc tm (waitF l ws) (qa l h).id k)) ∧ Hid (Below w2.heap.size w2 wr)) (fun x _ _ => len - (intOf x).toNat)
      case atStart => exact ⟨0, by omega, rfl, rfl, Below.refl _ _⟩
      case round =>
        obtain ⟨k, hk, rfl, rfl, hB⟩ := hrel
        by_cases hlt : k < len
        · have hlt' : k < l.length := by rw [HLl.out]; exact hlt
          have BT := hid (B0.out.trans ((WB.out.trans (hB.out.mono WB.out.size)).mono B0.out.size))
          obtain ⟨c0, c1, c2, c3, c4, c5, c6⟩ := (HR.out.below BT.out).2 k hlt'
          have BS : Hid (bstI l us tc tm (waitF l ws) (qa l h).id (k + 1) = if (qa l k).par = (qa l h).id ∧ waitF l ws (qa l k).id ≠ 0 then (if bstI l us tc tm (waitF l ws) (qa l h).id k = -1 then (k : Int) else if cmpAt l us tc tm k (bstI l us tc tm (waitF l ws) (qa l h).id k).toNat < 0 then (k : Int) else bstI l us tc tm (waitF l ws) (qa l h).id k) else bstI l us tc tm (waitF l ws) (qa l h).id k) := rfl
          have BF := hid (bst_form l us tc tm (waitF l ws) (qa l h).id k)
          have WTW := hid (want_wait HC.out HAL.out hlt')
          have WAN := hid (fun W (hW : Below w.heap.size w W) => wanted_any lb lo len cap l wa wn wc ws (qa l k).id W (HH.out.below hW) hle HF.out (HW.out.below hW) HAL.out (by rw [HF.out.pl hlt']; exact hlt'))
          have BKI : Hid (bid l (k : Int) = (qa l k).id) := by unfold Hid bid; rw [if_neg (by omega), Int.toNat_natCast]
          have KPL := hid (HF.out.pl hlt')
          have LO : Hid (∀ b, b < l.length → leok (vecAt l us k).1 (vecAt l us k).2 (qa l k).wt (vecAt l us b).1 (vecAt l us b).2 (qa l b).wt tc tm = true) := fun b hb => by
            have oa := fits_at hFt.out (i := k) hlt'
            have ob := fits_at hFt.out (i := b) hb
            have wa' := (arg_at HA.out (qa_mem (l := l) (i := k) hlt')).1
            have wb' := (arg_at HA.out (qa_mem (l := l) (i := b) hb)).1
            unfold leok; simp [oa, ob, HT.out, wa', wb']
          generalize hIDe : (qa l h).id = ID at *
          have QKE : Hid (qa l k = qa l k) := rfl
          generalize hq : qa l k = q at *
          have HQE := hid hq
          clear hq QKE
          obtain ⟨q1, q2, q3, q4, q5, q6, q7⟩ := q
          simp only at *
          have BA := hid (hB.out.alloc hB.out.size (.cells #[.int .i64 q1, .int .i64 q2, .int .i64 q3, .int .i64 q4, .int .i64 q5, .int .i64 q6, .int .i64 q7] 42))
          have BAT := hid (BT.out.alloc BT.out.size (.cells #[.int .i64 q1, .int .i64 q2, .int .i64 q3, .int .i64 q4, .int .i64 q5, .int .i64 q6, .int .i64 q7] 42))
          have y0 : (wr.alloc (.cells #[.int .i64 q1, .int .i64 q2, .int .i64 q3, .int .i64 q4, .int .i64 q5, .int .i64 q6, .int .i64 q7] 42)).cell? ⟨wr.heap.size, 0, none⟩ = some (.int .i64 q1) := by simp [go_sem]
          have y1 : (wr.alloc (.cells #[.int .i64 q1, .int .i64 q2, .int .i64 q3, .int .i64 q4, .int .i64 q5, .int .i64 q6, .int .i64 q7] 42)).cell? ⟨wr.heap.size, 1, none⟩ = some (.int .i64 q2) := by simp [go_sem]
          have y2 : (wr.alloc (.cells #[.int .i64 q1, .int .i64 q2, .int .i64 q3, .int .i64 q4, .int .i64 q5, .int .i64 q6, .int .i64 q7] 42)).cell? ⟨wr.heap.size, 2, none⟩ = some (.int .i64 q3) := by simp [go_sem]
          have ka : (0 : Int) ≤ (k : Int) := by omega
          have kb : (k : Int) < (len : Int) := by omega
          by_cases hp : q2 = ID
          · have tp : (q2 != ID) = false := by simpa using hp
            have HP := hid hp
            clear hp
            go_wp2_with fail
            clear c0 c1 c2 c3 c4 c5 c6
            generalize (wr.alloc (.cells #[.int .i64 q1, .int .i64 q2, .int .i64 q3, .int .i64 q4, .int .i64 q5, .int .i64 q6, .int .i64 q7] 42)) = w6 at *
            generalize wr.heap.size = QK at *
            refine (WAN.out w6 BAT.out).mono ?_
            rintro e w7 ⟨rfl, b7⟩
            have B7 := hid (BA.out.trans (b7.mono BA.out.size))
            have B7T := hid (BAT.out.trans (b7.mono BAT.out.size))
            have y0 := keepc b7 y0
            have y2 := keepc b7 y2
            clear b7 y1
            by_cases hz : waitF l ws q1 = 0
            · have tz : wantB l ws q1 = false := by
                cases hx : wantB l ws q1
                · rfl
                · exact absurd hz (WTW.out.1 hx)
              have EB : Hid (bstI l us tc tm (waitF l ws) ID (k + 1) = bstI l us tc tm (waitF l ws) ID k) := by unfold Hid; rw [BS.out, if_neg (fun h => h.2 hz)]
              rw [tz]
              clear BS hz tz WTW WAN y0 y2
              go_wp2
              go_roundw
              case rel => exact ⟨k + 1, by omega, by go_num, by rw [EB.out], B7⟩
              case measure => simp [intOf]; omega
            · have tz : wantB l ws q1 = true := WTW.out.2 hz
              have EB : Hid (bstI l us tc tm (waitF l ws) ID (k + 1) = (if bstI l us tc tm (waitF l ws) ID k = -1 then (k : Int) else if cmpAt l us tc tm k (bstI l us tc tm (waitF l ws) ID k).toNat < 0 then (k : Int) else bstI l us tc tm (waitF l ws) ID k)) := by unfold Hid; rw [BS.out, if_pos ⟨HP.out, hz⟩]
              rw [tz]
              clear BS hz tz WTW WAN
              rcases BF.out with hn | ⟨b2, hb2k, hbe, hb2p, hb2f⟩
              · have EC : Hid (bid l (bstI l us tc tm (waitF l ws) ID (k + 1)) = q1) := by unfold Hid; rw [EB.out, if_pos hn]; exact BKI.out
                have en : bid l (bstI l us tc tm (waitF l ws) ID k) = -1 := by rw [hn]; rfl
                rw [en]
                clear EB BF hn en
                have B7d := hid B7.out.drew
                replace y0 := drewc y0
                go_wp2_with fail
                refine wp_region_held_drew (S := (fun w' => True)) (by kernel_rfl) trivial (fun hHeld => ?_)
                refine wpAnyH_take (i := 0) (v := .int .i64 (-1)) rfl (by kernel_rfl) (by kernel_rfl) (by kernel_rfl) (fun _ _ _ h => h) (Or.inl ⟨by rfl, ?_⟩) (by assumption) ?_
                · (intro w hSw; (try dsimp only at hSw); go_simp)
                (try simp only [Act.put, List.getElem_toArray, List.getElem_cons_succ, List.getElem_cons_zero, List.setIfInBounds_toArray, List.set_cons_zero, List.set_cons_succ])
                refine wpAnyH_take (i := 1) (v := .bool true) rfl (by kernel_rfl) (by kernel_rfl) (by kernel_rfl) (fun _ _ _ h => h) (Or.inl ⟨by rfl, ?_⟩) (by assumption) ?_
                · (intro w hSw; (try dsimp only at hSw); go_simp)
                (try simp only [Act.put, List.getElem_toArray, List.getElem_cons_succ, List.getElem_cons_zero, List.setIfInBounds_toArray, List.set_cons_zero, List.set_cons_succ])
                refine wpAnyH_take (i := 2) (v := .bool true) rfl (by kernel_rfl) (by kernel_rfl) (by kernel_rfl) (fun _ _ _ h => h) (Or.inl ⟨by rfl, ?_⟩) (by assumption) ?_
                · (intro w hSw; (try dsimp only at hSw); go_simp)
                (try simp only [Act.put, List.getElem_toArray, List.getElem_cons_succ, List.getElem_cons_zero, List.setIfInBounds_toArray, List.set_cons_zero, List.set_cons_succ])
                refine wpAnyH_take (i := 3) (v := undef) rfl (by kernel_rfl) (by kernel_rfl) (by kernel_rfl) (fun _ _ _ h => h) (Or.inr ⟨by rfl, rfl⟩) (by assumption) ?_
                (try simp only [Act.put, List.getElem_toArray, List.getElem_cons_succ, List.getElem_cons_zero, List.setIfInBounds_toArray, List.set_cons_zero, List.set_cons_succ])
                refine wpAnyH_take (i := 4) (v := undef) rfl (by kernel_rfl) (by kernel_rfl) (by kernel_rfl) (fun _ _ _ h => h) (Or.inr ⟨by rfl, rfl⟩) (by assumption) ?_
                (try simp only [Act.put, List.getElem_toArray, List.getElem_cons_succ, List.getElem_cons_zero, List.setIfInBounds_toArray, List.set_cons_zero, List.set_cons_succ])
                refine wpAnyH_take (i := 5) (v := undef) rfl (by kernel_rfl) (by kernel_rfl) (by kernel_rfl) (fun _ _ _ h => h) (Or.inr ⟨by rfl, rfl⟩) (by assumption) ?_
                (try simp only [Act.put, List.getElem_toArray, List.getElem_cons_succ, List.getElem_cons_zero, List.setIfInBounds_toArray, List.set_cons_zero, List.set_cons_succ])
                refine wpAnyH_take (i := 6) (v := undef) rfl (by kernel_rfl) (by kernel_rfl) (by kernel_rfl) (fun _ _ _ h => h) (Or.inr ⟨by rfl, rfl⟩) (by assumption) ?_
                (try simp only [Act.put, List.getElem_toArray, List.getElem_cons_succ, List.getElem_cons_zero, List.setIfInBounds_toArray, List.set_cons_zero, List.set_cons_succ])
                refine wpAnyH_take (i := 7) (v := undef) rfl (by kernel_rfl) (by kernel_rfl) (by kernel_rfl) (fun _ _ _ h => h) (Or.inr ⟨by rfl, rfl⟩) (by assumption) ?_
                (try simp only [Act.put, List.getElem_toArray, List.getElem_cons_succ, List.getElem_cons_zero, List.setIfInBounds_toArray, List.set_cons_zero, List.set_cons_succ])
                refine wpAnyH_take (i := 8) (v := undef) rfl (by kernel_rfl) (by kernel_rfl) (by kernel_rfl) (fun _ _ _ h => h) (Or.inr ⟨by rfl, rfl⟩) (by assumption) ?_
                (try simp only [Act.put, List.getElem_toArray, List.getElem_cons_succ, List.getElem_cons_zero, List.setIfInBounds_toArray, List.set_cons_zero, List.set_cons_succ])
                refine wpAnyH_take (i := 9) (v := undef) rfl (by kernel_rfl) (by kernel_rfl) (by kernel_rfl) (fun _ _ _ h => h) (Or.inr ⟨by rfl, rfl⟩) (by assumption) ?_
                (try simp only [Act.put, List.getElem_toArray, List.getElem_cons_succ, List.getElem_cons_zero, List.setIfInBounds_toArray, List.set_cons_zero, List.set_cons_succ])
                refine wpAnyH_take (i := 10) (v := undef) rfl (by kernel_rfl) (by kernel_rfl) (by kernel_rfl) (fun _ _ _ h => h) (Or.inr ⟨by rfl, rfl⟩) (by assumption) ?_
                (try simp only [Act.put, List.getElem_toArray, List.getElem_cons_succ, List.getElem_cons_zero, List.setIfInBounds_toArray, List.set_cons_zero, List.set_cons_succ])
                refine wpAnyH_take (i := 11) (v := undef) rfl (by kernel_rfl) (by kernel_rfl) (by kernel_rfl) (fun _ _ _ h => h) (Or.inr ⟨by rfl, rfl⟩) (by assumption) ?_
                (try simp only [Act.put, List.getElem_toArray, List.getElem_cons_succ, List.getElem_cons_zero, List.setIfInBounds_toArray, List.set_cons_zero, List.set_cons_succ])
                refine wpAnyH_take (i := 12) (v := undef) rfl (by kernel_rfl) (by kernel_rfl) (by kernel_rfl) (fun _ _ _ h => h) (Or.inr ⟨by rfl, rfl⟩) (by assumption) ?_
                (try simp only [Act.put, List.getElem_toArray, List.getElem_cons_succ, List.getElem_cons_zero, List.setIfInBounds_toArray, List.set_cons_zero, List.set_cons_succ])
                refine wpAnyH_take (i := 13) (v := undef) rfl (by kernel_rfl) (by kernel_rfl) (by kernel_rfl) (fun _ _ _ h => h) (Or.inr ⟨by rfl, rfl⟩) (by assumption) ?_
                (try simp only [Act.put, List.getElem_toArray, List.getElem_cons_succ, List.getElem_cons_zero, List.setIfInBounds_toArray, List.set_cons_zero, List.set_cons_succ])
                refine wpAnyH_take (i := 14) (v := undef) rfl (by kernel_rfl) (by kernel_rfl) (by kernel_rfl) (fun _ _ _ h => h) (Or.inr ⟨by rfl, rfl⟩) (by assumption) ?_
                (try simp only [Act.put, List.getElem_toArray, List.getElem_cons_succ, List.getElem_cons_zero, List.setIfInBounds_toArray, List.set_cons_zero, List.set_cons_succ])
                refine wpAnyH_take (i := 15) (v := undef) rfl (by kernel_rfl) (by kernel_rfl) (by kernel_rfl) (fun _ _ _ h => h) (Or.inr ⟨by rfl, rfl⟩) (by assumption) ?_
                (try simp only [Act.put, List.getElem_toArray, List.getElem_cons_succ, List.getElem_cons_zero, List.setIfInBounds_toArray, List.set_cons_zero, List.set_cons_succ])
                refine wpAnyH_take (i := 16) (v := undef) rfl (by kernel_rfl) (by kernel_rfl) (by kernel_rfl) (fun _ _ _ h => h) (Or.inr ⟨by rfl, rfl⟩) (by assumption) ?_
                (try simp only [Act.put, List.getElem_toArray, List.getElem_cons_succ, List.getElem_cons_zero, List.setIfInBounds_toArray, List.set_cons_zero, List.set_cons_succ])
                refine wpAnyH_take (i := 17) (v := undef) rfl (by kernel_rfl) (by kernel_rfl) (by kernel_rfl) (fun _ _ _ h => h) (Or.inr ⟨by rfl, rfl⟩) (by assumption) ?_
                (try simp only [Act.put, List.getElem_toArray, List.getElem_cons_succ, List.getElem_cons_zero, List.setIfInBounds_toArray, List.set_cons_zero, List.set_cons_succ])
                refine wpAnyH_take (i := 18) (v := undef) rfl (by kernel_rfl) (by kernel_rfl) (by kernel_rfl) (fun _ _ _ h => h) (Or.inr ⟨by rfl, rfl⟩) (by assumption) ?_
                (try simp only [Act.put, List.getElem_toArray, List.getElem_cons_succ, List.getElem_cons_zero, List.setIfInBounds_toArray, List.set_cons_zero, List.set_cons_succ])
                refine wpAnyH_take (i := 19) (v := undef) rfl (by kernel_rfl) (by kernel_rfl) (by kernel_rfl) (fun _ _ _ h => h) (Or.inr ⟨by rfl, rfl⟩) (by assumption) ?_
                (try simp only [Act.put, List.getElem_toArray, List.getElem_cons_succ, List.getElem_cons_zero, List.setIfInBounds_toArray, List.set_cons_zero, List.set_cons_succ])
                refine wpAnyH_take (i := 20) (v := undef) rfl (by kernel_rfl) (by kernel_rfl) (by kernel_rfl) (fun _ _ _ h => h) (Or.inr ⟨by rfl, rfl⟩) (by assumption) ?_
                (try simp only [Act.put, List.getElem_toArray, List.getElem_cons_succ, List.getElem_cons_zero, List.setIfInBounds_toArray, List.set_cons_zero, List.set_cons_succ])
                refine wpAnyH_take (i := 21) (v := .bool true) rfl (by kernel_rfl) (by kernel_rfl) (by kernel_rfl) (fun _ _ _ h => h) (Or.inl ⟨by rfl, ?_⟩) (by assumption) ?_
                · (intro w hSw; (try dsimp only at hSw); go_simp)
                (try simp only [Act.put, List.getElem_toArray, List.getElem_cons_succ, List.getElem_cons_zero, List.setIfInBounds_toArray, List.set_cons_zero, List.set_cons_succ])
                refine wpAnyH_done (by kernel_rfl) ?_ _
                clear hHeld 
                go_wp2
                go_roundw
                case rel => exact ⟨k + 1, by omega, by go_num, by rw [EC.out], B7d⟩
                case measure => simp [intOf]; omega
              · have hb2l : b2 < l.length := by omega
                have en : bid l (bstI l us tc tm (waitF l ws) ID k) = (qa l b2).id := by rw [hbe]; unfold bid; rw [if_neg (by omega), Int.toNat_natCast]
                rw [en]
                rw [if_neg (by rw [hbe]; omega), hbe, Int.toNat_natCast] at EB
                have EN : Hid (bid l (b2 : Int) = (qa l b2).id) := by unfold Hid bid; rw [if_neg (by omega), Int.toNat_natCast]
                have IB0 := HF.out.id_nonneg hb2l
                have LOK := LO.out b2 hb2l
                have ECM : cmpAt l us tc tm k b2 = lev (vecAt l us k).1 (vecAt l us k).2 q3 (vecAt l us b2).1 (vecAt l us b2).2 (qa l b2).wt tc tm := by unfold cmpAt; rw [HQE.out]
                have CLE := hid (fun W => rless_any _ _ _ _ _ _ _ _ LOK W)
                rw [ECM] at EB
                have CS1 := hid (fun W (hW : Below w.heap.size w W) => rsum_any (some ⟨lb, lo, none⟩) len cap l (some ⟨sb, so, none⟩) sc (vecsTo l us len) q1 W (HH.out.below hW) (HV.out.below hW) (by rw [KPL.out]; exact hlt))
                rw [KPL.out, va_vecs hlt] at CS1
                have PLB := HF.out.pl hb2l
                have CS2 := hid (fun W (hW : Below w.heap.size w W) => rsum_any (some ⟨lb, lo, none⟩) len cap l (some ⟨sb, so, none⟩) sc (vecsTo l us len) (qa l b2).id W (HH.out.below hW) (HV.out.below hW) (by rw [PLB]; omega))
                rw [PLB, va_vecs (show b2 < len by omega)] at CS2
                have CFI := hid (fun W (hW : Below w.heap.size w W) => find_any (some ⟨lb, lo, none⟩) len cap l (qa l b2).id W (HH.out.below hW) (by rw [PLB]; omega))
                rw [PLB] at CFI
                generalize lev (vecAt l us k).1 (vecAt l us k).2 q3 (vecAt l us b2).1 (vecAt l us b2).2 (qa l b2).wt tc tm = V at *
                generalize vecAt l us k = VA at *
                obtain ⟨A1, A2⟩ := VA
                generalize vecAt l us b2 = VX at *
                obtain ⟨X1, X2⟩ := VX
                clear LO HQE LOK ECM en BF hbe hb2p hb2f PLB
                generalize qa l b2 = kq at *
                obtain ⟨k1, k2, k3, k4, k5, k6, k7⟩ := kq
                simp only at *
                have m0 := keepc (WB.out.trans (B7.out.mono WB.out.size)) M0.out
                have m1 := keepc (WB.out.trans (B7.out.mono WB.out.size)) M1.out
                have tb : decide (k1 < 0) = false := by simp; omega
                have Y0 := hid (drewc y0)
                have BX := hid B7T.out.drew
                generalize hIBe : k1 = IB at *
                have B7d := hid B7.out.drew
                by_cases hlt2 : V < 0
                · have tl : decide (V < 0) = true := by simpa using hlt2
                  have EC : Hid (bid l (bstI l us tc tm (waitF l ws) ID (k + 1)) = q1) := by unfold Hid; rw [EB.out, if_pos hlt2]; exact BKI.out
                  clear EB hlt2
                  go_wp2_with fail
                  have rg_y0 := drewc y0
                  have rg_y2 := drewc y2
                  have rg_m0 := drewc m0
                  have rg_m1 := drewc m1
                  refine wp_region_held_drew (S := (fun w' => w'.cell? ⟨QK, 0, none⟩ = some (.int .i64 q1) ∧ w'.cell? ⟨QK, 2, none⟩ = some (.int .i64 q3) ∧ w'.cell? ⟨w.heap.size, 0, none⟩ = some (.int .i64 tc) ∧ w'.cell? ⟨w.heap.size, 1, none⟩ = some (.int .i64 tm))) (by kernel_rfl) ⟨rg_y0, rg_y2, rg_m0, rg_m1⟩ (fun hHeld => ?_)
                  refine wpAnyH_take (i := 0) (v := .int .i64 IB) rfl (by kernel_rfl) (by kernel_rfl) (by kernel_rfl) (fun _ _ _ h => h) (Or.inl ⟨by rfl, ?_⟩) (by assumption) ?_
                  · (intro w hSw; (try dsimp only at hSw); go_simp)
                  (try simp only [Act.put, List.getElem_toArray, List.getElem_cons_succ, List.getElem_cons_zero, List.setIfInBounds_toArray, List.set_cons_zero, List.set_cons_succ])
                  refine wpAnyH_take (i := 1) (v := .bool false) rfl (by kernel_rfl) (by kernel_rfl) (by kernel_rfl) (fun _ _ _ h => h) (Or.inl ⟨by rfl, ?_⟩) (by assumption) ?_
                  · (intro w hSw; (try dsimp only at hSw); go_simp)
                  (try simp only [Act.put, List.getElem_toArray, List.getElem_cons_succ, List.getElem_cons_zero, List.setIfInBounds_toArray, List.set_cons_zero, List.set_cons_succ])
                  refine wpAnyH_take (i := 2) (v := .bool false) rfl (by kernel_rfl) (by kernel_rfl) (by kernel_rfl) (fun _ _ _ h => h) (Or.inl ⟨by rfl, ?_⟩) (by assumption) ?_
                  · (intro w hSw; (try dsimp only at hSw); go_simp)
                  (try simp only [Act.put, List.getElem_toArray, List.getElem_cons_succ, List.getElem_cons_zero, List.setIfInBounds_toArray, List.set_cons_zero, List.set_cons_succ])
                  refine wpAnyH_take (i := 3) (v := .slice (some ⟨lb, lo, none⟩) len cap) rfl (by kernel_rfl) (by kernel_rfl) (by kernel_rfl) (fun _ _ _ h => h) (Or.inl ⟨by rfl, ?_⟩) (by assumption) ?_
                  · (intro w hSw; (try dsimp only at hSw); go_simp)
                  (try simp only [Act.put, List.getElem_toArray, List.getElem_cons_succ, List.getElem_cons_zero, List.setIfInBounds_toArray, List.set_cons_zero, List.set_cons_succ])
                  refine wpAnyH_take (i := 4) (v := .slice (some ⟨sb, so, none⟩) len sc) rfl (by kernel_rfl) (by kernel_rfl) (by kernel_rfl) (fun _ _ _ h => h) (Or.inl ⟨by rfl, ?_⟩) (by assumption) ?_
                  · (intro w hSw; (try dsimp only at hSw); go_simp)
                  (try simp only [Act.put, List.getElem_toArray, List.getElem_cons_succ, List.getElem_cons_zero, List.setIfInBounds_toArray, List.set_cons_zero, List.set_cons_succ])
                  refine wpAnyH_take (i := 5) (v := .pointer (some ⟨QK, 0, none⟩)) rfl (by kernel_rfl) (by kernel_rfl) (by kernel_rfl) (fun _ _ _ h => h) (Or.inl ⟨by rfl, ?_⟩) (by assumption) ?_
                  · (intro w hSw; (try dsimp only at hSw); go_simp)
                  (try simp only [Act.put, List.getElem_toArray, List.getElem_cons_succ, List.getElem_cons_zero, List.setIfInBounds_toArray, List.set_cons_zero, List.set_cons_succ])
                  refine wpAnyH_take (i := 6) (v := .int .i64 q1) rfl (by kernel_rfl) (by kernel_rfl) (by kernel_rfl) (fun _ _ _ h => h) (Or.inl ⟨by rfl, ?_⟩) (by assumption) ?_
                  · (intro w hSw; (try dsimp only at hSw); go_simp)
                  (try simp only [Act.put, List.getElem_toArray, List.getElem_cons_succ, List.getElem_cons_zero, List.setIfInBounds_toArray, List.set_cons_zero, List.set_cons_succ])
                  refine wpAnyH_take (i := 8) (v := .pointer (some ⟨QK, 2, none⟩)) rfl (by kernel_rfl) (by kernel_rfl) (by kernel_rfl) (fun _ _ _ h => h) (Or.inl ⟨by rfl, ?_⟩) (by assumption) ?_
                  · (intro w hSw; (try dsimp only at hSw); go_simp)
                  (try simp only [Act.put, List.getElem_toArray, List.getElem_cons_succ, List.getElem_cons_zero, List.setIfInBounds_toArray, List.set_cons_zero, List.set_cons_succ])
                  refine wpAnyH_take (i := 9) (v := .int .i64 q3) rfl (by kernel_rfl) (by kernel_rfl) (by kernel_rfl) (fun _ _ _ h => h) (Or.inl ⟨by rfl, ?_⟩) (by assumption) ?_
                  · (intro w hSw; (try dsimp only at hSw); go_simp)
                  (try simp only [Act.put, List.getElem_toArray, List.getElem_cons_succ, List.getElem_cons_zero, List.setIfInBounds_toArray, List.set_cons_zero, List.set_cons_succ])
                  refine wpAnyH_take (i := 10) (v := .slice (some ⟨lb, lo, none⟩) len cap) rfl (by kernel_rfl) (by kernel_rfl) (by kernel_rfl) (fun _ _ _ h => h) (Or.inl ⟨by rfl, ?_⟩) (by assumption) ?_
                  · (intro w hSw; (try dsimp only at hSw); go_simp)
                  (try simp only [Act.put, List.getElem_toArray, List.getElem_cons_succ, List.getElem_cons_zero, List.setIfInBounds_toArray, List.set_cons_zero, List.set_cons_succ])
                  refine wpAnyH_take (i := 11) (v := .slice (some ⟨sb, so, none⟩) len sc) rfl (by kernel_rfl) (by kernel_rfl) (by kernel_rfl) (fun _ _ _ h => h) (Or.inl ⟨by rfl, ?_⟩) (by assumption) ?_
                  · (intro w hSw; (try dsimp only at hSw); go_simp)
                  (try simp only [Act.put, List.getElem_toArray, List.getElem_cons_succ, List.getElem_cons_zero, List.setIfInBounds_toArray, List.set_cons_zero, List.set_cons_succ])
                  refine wpAnyH_take (i := 12) (v := .int .i64 IB) rfl (by kernel_rfl) (by kernel_rfl) (by kernel_rfl) (fun _ _ _ h => h) (Or.inl ⟨by rfl, ?_⟩) (by assumption) ?_
                  · (intro w hSw; (try dsimp only at hSw); go_simp)
                  (try simp only [Act.put, List.getElem_toArray, List.getElem_cons_succ, List.getElem_cons_zero, List.setIfInBounds_toArray, List.set_cons_zero, List.set_cons_succ])
                  refine wpAnyH_take (i := 14) (v := .slice (some ⟨lb, lo, none⟩) len cap) rfl (by kernel_rfl) (by kernel_rfl) (by kernel_rfl) (fun _ _ _ h => h) (Or.inl ⟨by rfl, ?_⟩) (by assumption) ?_
                  · (intro w hSw; (try dsimp only at hSw); go_simp)
                  (try simp only [Act.put, List.getElem_toArray, List.getElem_cons_succ, List.getElem_cons_zero, List.setIfInBounds_toArray, List.set_cons_zero, List.set_cons_succ])
                  refine wpAnyH_take (i := 15) (v := .int .i64 IB) rfl (by kernel_rfl) (by kernel_rfl) (by kernel_rfl) (fun _ _ _ h => h) (Or.inl ⟨by rfl, ?_⟩) (by assumption) ?_
                  · (intro w hSw; (try dsimp only at hSw); go_simp)
                  (try simp only [Act.put, List.getElem_toArray, List.getElem_cons_succ, List.getElem_cons_zero, List.setIfInBounds_toArray, List.set_cons_zero, List.set_cons_succ])
                  refine wpAnyH_take (i := 18) (v := .agg #[.int .i64 tc, .int .i64 tm]) rfl (by kernel_rfl) (by kernel_rfl) (by kernel_rfl) (fun _ _ _ h => h) (Or.inl ⟨by rfl, ?_⟩) (by assumption) ?_
                  · (intro w hSw; (try dsimp only at hSw); go_simp)
                  (try simp only [Act.put, List.getElem_toArray, List.getElem_cons_succ, List.getElem_cons_zero, List.setIfInBounds_toArray, List.set_cons_zero, List.set_cons_succ])
                  refine wpAnyH_ready (rs := [7]) (by kernel_rfl) (by simp) ?_
                  refine AllReadyH.cons rfl (fun K hK => ?_) AllReadyH.nil
                  go_simp
                  refine (CS1.out _ BX.out).mono ?_
                  rintro e x1 ⟨rfl, b1⟩
                  replace BX := hid (BX.out.trans (b1.mono BX.out.size))
                  replace rg_y0 := keepc b1 rg_y0
                  replace rg_y2 := keepc b1 rg_y2
                  replace rg_m0 := keepc b1 rg_m0
                  replace rg_m1 := keepc b1 rg_m1
                  refine hK.out _ _ ⟨rg_y0, rg_y2, rg_m0, rg_m1⟩ (fun hHeld => ?_)
                  clear hK K
                  (try simp only [Act.put, List.getElem_toArray, List.getElem_cons_succ, List.getElem_cons_zero, List.setIfInBounds_toArray, List.set_cons_zero, List.set_cons_succ])
                  refine wpAnyH_ready (rs := [13]) (by kernel_rfl) (by simp) ?_
                  refine AllReadyH.cons rfl (fun K hK => ?_) AllReadyH.nil
                  go_simp
                  refine (CS2.out _ BX.out).mono ?_
                  rintro e x2 ⟨rfl, b2⟩
                  replace BX := hid (BX.out.trans (b2.mono BX.out.size))
                  replace rg_y0 := keepc b2 rg_y0
                  replace rg_y2 := keepc b2 rg_y2
                  replace rg_m0 := keepc b2 rg_m0
                  replace rg_m1 := keepc b2 rg_m1
                  refine hK.out _ _ ⟨rg_y0, rg_y2, rg_m0, rg_m1⟩ (fun hHeld => ?_)
                  clear hK K
                  (try simp only [Act.put, List.getElem_toArray, List.getElem_cons_succ, List.getElem_cons_zero, List.setIfInBounds_toArray, List.set_cons_zero, List.set_cons_succ])
                  refine wpAnyH_ready (rs := [16]) (by kernel_rfl) (by simp) ?_
                  refine AllReadyH.cons rfl (fun K hK => ?_) AllReadyH.nil
                  go_simp
                  refine (CFI.out _ BX.out).mono ?_
                  rintro e x3 ⟨rfl, b3⟩
                  replace BX := hid (BX.out.trans (b3.mono BX.out.size))
                  replace rg_y0 := keepc b3 rg_y0
                  replace rg_y2 := keepc b3 rg_y2
                  replace rg_m0 := keepc b3 rg_m0
                  replace rg_m1 := keepc b3 rg_m1
                  refine hK.out _ _ ⟨rg_y0, rg_y2, rg_m0, rg_m1⟩ (fun hHeld => ?_)
                  clear hK K
                  (try simp only [Act.put, List.getElem_toArray, List.getElem_cons_succ, List.getElem_cons_zero, List.setIfInBounds_toArray, List.set_cons_zero, List.set_cons_succ])
                  refine wpAnyH_take (i := 17) (v := .int .i64 k3) rfl (by kernel_rfl) (by kernel_rfl) (by kernel_rfl) (fun _ _ _ h => h) (Or.inl ⟨by rfl, ?_⟩) (by assumption) ?_
                  · (intro w hSw; have hpf := run_wt; (try dsimp only at hSw); go_simp)
                  (try simp only [Act.put, List.getElem_toArray, List.getElem_cons_succ, List.getElem_cons_zero, List.setIfInBounds_toArray, List.set_cons_zero, List.set_cons_succ])
                  refine wpAnyH_ready (rs := [19]) (by kernel_rfl) (by simp) ?_
                  refine AllReadyH.cons rfl (fun K hK => ?_) AllReadyH.nil
                  go_simp
                  refine (CLE.out _).mono ?_
                  rintro e x4 ⟨rfl, b4⟩
                  replace BX := hid (BX.out.trans (b4.mono BX.out.size))
                  replace rg_y0 := keepc b4 rg_y0
                  replace rg_y2 := keepc b4 rg_y2
                  replace rg_m0 := keepc b4 rg_m0
                  replace rg_m1 := keepc b4 rg_m1
                  refine hK.out _ _ ⟨rg_y0, rg_y2, rg_m0, rg_m1⟩ (fun hHeld => ?_)
                  clear hK K
                  (try simp only [Act.put, List.getElem_toArray, List.getElem_cons_succ, List.getElem_cons_zero, List.setIfInBounds_toArray, List.set_cons_zero, List.set_cons_succ])
                  refine wpAnyH_take (i := 20) (v := .bool true) rfl (by kernel_rfl) (by kernel_rfl) (by kernel_rfl) (fun _ _ _ h => h) (Or.inl ⟨by rfl, ?_⟩) (by assumption) ?_
                  · (intro w hSw; (try dsimp only at hSw); go_simp)
                  (try simp only [Act.put, List.getElem_toArray, List.getElem_cons_succ, List.getElem_cons_zero, List.setIfInBounds_toArray, List.set_cons_zero, List.set_cons_succ])
                  refine wpAnyH_take (i := 21) (v := .bool true) rfl (by kernel_rfl) (by kernel_rfl) (by kernel_rfl) (fun _ _ _ h => h) (Or.inl ⟨by rfl, ?_⟩) (by assumption) ?_
                  · (intro w hSw; (try dsimp only at hSw); go_simp)
                  (try simp only [Act.put, List.getElem_toArray, List.getElem_cons_succ, List.getElem_cons_zero, List.setIfInBounds_toArray, List.set_cons_zero, List.set_cons_succ])
                  refine wpAnyH_done (by kernel_rfl) ?_ _
                  clear hHeld rg_y0 rg_y2 rg_m0 rg_m1
                  have b8 := (((b1.trans (b2.mono b1.size)).trans (b3.mono (Nat.le_trans b1.size b2.size))).trans (b4.mono (Nat.le_trans b1.size (Nat.le_trans b2.size b3.size))))
                  have y0 := keepc b8 Y0.out
                  have B8 := hid (B7d.out.trans (b8.mono B7d.out.size))
                  clear b1 b2 b3 b4 b8 CS1 CS2 CFI CLE m0 m1 y2
                  go_wp2
                  go_roundw
                  case rel => exact ⟨k + 1, by omega, by go_num, by rw [EC.out], B8⟩
                  case measure => simp [intOf]; omega
                · have tl : decide (V < 0) = false := by simpa using hlt2
                  have EC : Hid (bid l (bstI l us tc tm (waitF l ws) ID (k + 1)) = IB) := by unfold Hid; rw [EB.out, if_neg hlt2]; exact EN.out
                  clear EB hlt2
                  go_wp2_with fail
                  have rg_y0 := drewc y0
                  have rg_y2 := drewc y2
                  have rg_m0 := drewc m0
                  have rg_m1 := drewc m1
                  refine wp_region_held_drew (S := (fun w' => w'.cell? ⟨QK, 0, none⟩ = some (.int .i64 q1) ∧ w'.cell? ⟨QK, 2, none⟩ = some (.int .i64 q3) ∧ w'.cell? ⟨w.heap.size, 0, none⟩ = some (.int .i64 tc) ∧ w'.cell? ⟨w.heap.size, 1, none⟩ = some (.int .i64 tm))) (by kernel_rfl) ⟨rg_y0, rg_y2, rg_m0, rg_m1⟩ (fun hHeld => ?_)
                  refine wpAnyH_take (i := 0) (v := .int .i64 IB) rfl (by kernel_rfl) (by kernel_rfl) (by kernel_rfl) (fun _ _ _ h => h) (Or.inl ⟨by rfl, ?_⟩) (by assumption) ?_
                  · (intro w hSw; (try dsimp only at hSw); go_simp)
                  (try simp only [Act.put, List.getElem_toArray, List.getElem_cons_succ, List.getElem_cons_zero, List.setIfInBounds_toArray, List.set_cons_zero, List.set_cons_succ])
                  refine wpAnyH_take (i := 1) (v := .bool false) rfl (by kernel_rfl) (by kernel_rfl) (by kernel_rfl) (fun _ _ _ h => h) (Or.inl ⟨by rfl, ?_⟩) (by assumption) ?_
                  · (intro w hSw; (try dsimp only at hSw); go_simp)
                  (try simp only [Act.put, List.getElem_toArray, List.getElem_cons_succ, List.getElem_cons_zero, List.setIfInBounds_toArray, List.set_cons_zero, List.set_cons_succ])
                  refine wpAnyH_take (i := 2) (v := .bool false) rfl (by kernel_rfl) (by kernel_rfl) (by kernel_rfl) (fun _ _ _ h => h) (Or.inl ⟨by rfl, ?_⟩) (by assumption) ?_
                  · (intro w hSw; (try dsimp only at hSw); go_simp)
                  (try simp only [Act.put, List.getElem_toArray, List.getElem_cons_succ, List.getElem_cons_zero, List.setIfInBounds_toArray, List.set_cons_zero, List.set_cons_succ])
                  refine wpAnyH_take (i := 3) (v := .slice (some ⟨lb, lo, none⟩) len cap) rfl (by kernel_rfl) (by kernel_rfl) (by kernel_rfl) (fun _ _ _ h => h) (Or.inl ⟨by rfl, ?_⟩) (by assumption) ?_
                  · (intro w hSw; (try dsimp only at hSw); go_simp)
                  (try simp only [Act.put, List.getElem_toArray, List.getElem_cons_succ, List.getElem_cons_zero, List.setIfInBounds_toArray, List.set_cons_zero, List.set_cons_succ])
                  refine wpAnyH_take (i := 4) (v := .slice (some ⟨sb, so, none⟩) len sc) rfl (by kernel_rfl) (by kernel_rfl) (by kernel_rfl) (fun _ _ _ h => h) (Or.inl ⟨by rfl, ?_⟩) (by assumption) ?_
                  · (intro w hSw; (try dsimp only at hSw); go_simp)
                  (try simp only [Act.put, List.getElem_toArray, List.getElem_cons_succ, List.getElem_cons_zero, List.setIfInBounds_toArray, List.set_cons_zero, List.set_cons_succ])
                  refine wpAnyH_take (i := 5) (v := .pointer (some ⟨QK, 0, none⟩)) rfl (by kernel_rfl) (by kernel_rfl) (by kernel_rfl) (fun _ _ _ h => h) (Or.inl ⟨by rfl, ?_⟩) (by assumption) ?_
                  · (intro w hSw; (try dsimp only at hSw); go_simp)
                  (try simp only [Act.put, List.getElem_toArray, List.getElem_cons_succ, List.getElem_cons_zero, List.setIfInBounds_toArray, List.set_cons_zero, List.set_cons_succ])
                  refine wpAnyH_take (i := 6) (v := .int .i64 q1) rfl (by kernel_rfl) (by kernel_rfl) (by kernel_rfl) (fun _ _ _ h => h) (Or.inl ⟨by rfl, ?_⟩) (by assumption) ?_
                  · (intro w hSw; (try dsimp only at hSw); go_simp)
                  (try simp only [Act.put, List.getElem_toArray, List.getElem_cons_succ, List.getElem_cons_zero, List.setIfInBounds_toArray, List.set_cons_zero, List.set_cons_succ])
                  refine wpAnyH_take (i := 8) (v := .pointer (some ⟨QK, 2, none⟩)) rfl (by kernel_rfl) (by kernel_rfl) (by kernel_rfl) (fun _ _ _ h => h) (Or.inl ⟨by rfl, ?_⟩) (by assumption) ?_
                  · (intro w hSw; (try dsimp only at hSw); go_simp)
                  (try simp only [Act.put, List.getElem_toArray, List.getElem_cons_succ, List.getElem_cons_zero, List.setIfInBounds_toArray, List.set_cons_zero, List.set_cons_succ])
                  refine wpAnyH_take (i := 9) (v := .int .i64 q3) rfl (by kernel_rfl) (by kernel_rfl) (by kernel_rfl) (fun _ _ _ h => h) (Or.inl ⟨by rfl, ?_⟩) (by assumption) ?_
                  · (intro w hSw; (try dsimp only at hSw); go_simp)
                  (try simp only [Act.put, List.getElem_toArray, List.getElem_cons_succ, List.getElem_cons_zero, List.setIfInBounds_toArray, List.set_cons_zero, List.set_cons_succ])
                  refine wpAnyH_take (i := 10) (v := .slice (some ⟨lb, lo, none⟩) len cap) rfl (by kernel_rfl) (by kernel_rfl) (by kernel_rfl) (fun _ _ _ h => h) (Or.inl ⟨by rfl, ?_⟩) (by assumption) ?_
                  · (intro w hSw; (try dsimp only at hSw); go_simp)
                  (try simp only [Act.put, List.getElem_toArray, List.getElem_cons_succ, List.getElem_cons_zero, List.setIfInBounds_toArray, List.set_cons_zero, List.set_cons_succ])
                  refine wpAnyH_take (i := 11) (v := .slice (some ⟨sb, so, none⟩) len sc) rfl (by kernel_rfl) (by kernel_rfl) (by kernel_rfl) (fun _ _ _ h => h) (Or.inl ⟨by rfl, ?_⟩) (by assumption) ?_
                  · (intro w hSw; (try dsimp only at hSw); go_simp)
                  (try simp only [Act.put, List.getElem_toArray, List.getElem_cons_succ, List.getElem_cons_zero, List.setIfInBounds_toArray, List.set_cons_zero, List.set_cons_succ])
                  refine wpAnyH_take (i := 12) (v := .int .i64 IB) rfl (by kernel_rfl) (by kernel_rfl) (by kernel_rfl) (fun _ _ _ h => h) (Or.inl ⟨by rfl, ?_⟩) (by assumption) ?_
                  · (intro w hSw; (try dsimp only at hSw); go_simp)
                  (try simp only [Act.put, List.getElem_toArray, List.getElem_cons_succ, List.getElem_cons_zero, List.setIfInBounds_toArray, List.set_cons_zero, List.set_cons_succ])
                  refine wpAnyH_take (i := 14) (v := .slice (some ⟨lb, lo, none⟩) len cap) rfl (by kernel_rfl) (by kernel_rfl) (by kernel_rfl) (fun _ _ _ h => h) (Or.inl ⟨by rfl, ?_⟩) (by assumption) ?_
                  · (intro w hSw; (try dsimp only at hSw); go_simp)
                  (try simp only [Act.put, List.getElem_toArray, List.getElem_cons_succ, List.getElem_cons_zero, List.setIfInBounds_toArray, List.set_cons_zero, List.set_cons_succ])
                  refine wpAnyH_take (i := 15) (v := .int .i64 IB) rfl (by kernel_rfl) (by kernel_rfl) (by kernel_rfl) (fun _ _ _ h => h) (Or.inl ⟨by rfl, ?_⟩) (by assumption) ?_
                  · (intro w hSw; (try dsimp only at hSw); go_simp)
                  (try simp only [Act.put, List.getElem_toArray, List.getElem_cons_succ, List.getElem_cons_zero, List.setIfInBounds_toArray, List.set_cons_zero, List.set_cons_succ])
                  refine wpAnyH_take (i := 18) (v := .agg #[.int .i64 tc, .int .i64 tm]) rfl (by kernel_rfl) (by kernel_rfl) (by kernel_rfl) (fun _ _ _ h => h) (Or.inl ⟨by rfl, ?_⟩) (by assumption) ?_
                  · (intro w hSw; (try dsimp only at hSw); go_simp)
                  (try simp only [Act.put, List.getElem_toArray, List.getElem_cons_succ, List.getElem_cons_zero, List.setIfInBounds_toArray, List.set_cons_zero, List.set_cons_succ])
                  refine wpAnyH_ready (rs := [7]) (by kernel_rfl) (by simp) ?_
                  refine AllReadyH.cons rfl (fun K hK => ?_) AllReadyH.nil
                  go_simp
                  refine (CS1.out _ BX.out).mono ?_
                  rintro e x1 ⟨rfl, b1⟩
                  replace BX := hid (BX.out.trans (b1.mono BX.out.size))
                  replace rg_y0 := keepc b1 rg_y0
                  replace rg_y2 := keepc b1 rg_y2
                  replace rg_m0 := keepc b1 rg_m0
                  replace rg_m1 := keepc b1 rg_m1
                  refine hK.out _ _ ⟨rg_y0, rg_y2, rg_m0, rg_m1⟩ (fun hHeld => ?_)
                  clear hK K
                  (try simp only [Act.put, List.getElem_toArray, List.getElem_cons_succ, List.getElem_cons_zero, List.setIfInBounds_toArray, List.set_cons_zero, List.set_cons_succ])
                  refine wpAnyH_ready (rs := [13]) (by kernel_rfl) (by simp) ?_
                  refine AllReadyH.cons rfl (fun K hK => ?_) AllReadyH.nil
                  go_simp
                  refine (CS2.out _ BX.out).mono ?_
                  rintro e x2 ⟨rfl, b2⟩
                  replace BX := hid (BX.out.trans (b2.mono BX.out.size))
                  replace rg_y0 := keepc b2 rg_y0
                  replace rg_y2 := keepc b2 rg_y2
                  replace rg_m0 := keepc b2 rg_m0
                  replace rg_m1 := keepc b2 rg_m1
                  refine hK.out _ _ ⟨rg_y0, rg_y2, rg_m0, rg_m1⟩ (fun hHeld => ?_)
                  clear hK K
                  (try simp only [Act.put, List.getElem_toArray, List.getElem_cons_succ, List.getElem_cons_zero, List.setIfInBounds_toArray, List.set_cons_zero, List.set_cons_succ])
                  refine wpAnyH_ready (rs := [16]) (by kernel_rfl) (by simp) ?_
                  refine AllReadyH.cons rfl (fun K hK => ?_) AllReadyH.nil
                  go_simp
                  refine (CFI.out _ BX.out).mono ?_
                  rintro e x3 ⟨rfl, b3⟩
                  replace BX := hid (BX.out.trans (b3.mono BX.out.size))
                  replace rg_y0 := keepc b3 rg_y0
                  replace rg_y2 := keepc b3 rg_y2
                  replace rg_m0 := keepc b3 rg_m0
                  replace rg_m1 := keepc b3 rg_m1
                  refine hK.out _ _ ⟨rg_y0, rg_y2, rg_m0, rg_m1⟩ (fun hHeld => ?_)
                  clear hK K
                  (try simp only [Act.put, List.getElem_toArray, List.getElem_cons_succ, List.getElem_cons_zero, List.setIfInBounds_toArray, List.set_cons_zero, List.set_cons_succ])
                  refine wpAnyH_take (i := 17) (v := .int .i64 k3) rfl (by kernel_rfl) (by kernel_rfl) (by kernel_rfl) (fun _ _ _ h => h) (Or.inl ⟨by rfl, ?_⟩) (by assumption) ?_
                  · (intro w hSw; have hpf := run_wt; (try dsimp only at hSw); go_simp)
                  (try simp only [Act.put, List.getElem_toArray, List.getElem_cons_succ, List.getElem_cons_zero, List.setIfInBounds_toArray, List.set_cons_zero, List.set_cons_succ])
                  refine wpAnyH_ready (rs := [19]) (by kernel_rfl) (by simp) ?_
                  refine AllReadyH.cons rfl (fun K hK => ?_) AllReadyH.nil
                  go_simp
                  refine (CLE.out _).mono ?_
                  rintro e x4 ⟨rfl, b4⟩
                  replace BX := hid (BX.out.trans (b4.mono BX.out.size))
                  replace rg_y0 := keepc b4 rg_y0
                  replace rg_y2 := keepc b4 rg_y2
                  replace rg_m0 := keepc b4 rg_m0
                  replace rg_m1 := keepc b4 rg_m1
                  refine hK.out _ _ ⟨rg_y0, rg_y2, rg_m0, rg_m1⟩ (fun hHeld => ?_)
                  clear hK K
                  (try simp only [Act.put, List.getElem_toArray, List.getElem_cons_succ, List.getElem_cons_zero, List.setIfInBounds_toArray, List.set_cons_zero, List.set_cons_succ])
                  refine wpAnyH_take (i := 20) (v := .bool false) rfl (by kernel_rfl) (by kernel_rfl) (by kernel_rfl) (fun _ _ _ h => h) (Or.inl ⟨by rfl, ?_⟩) (by assumption) ?_
                  · (intro w hSw; (try dsimp only at hSw); go_simp)
                  (try simp only [Act.put, List.getElem_toArray, List.getElem_cons_succ, List.getElem_cons_zero, List.setIfInBounds_toArray, List.set_cons_zero, List.set_cons_succ])
                  refine wpAnyH_take (i := 21) (v := .bool false) rfl (by kernel_rfl) (by kernel_rfl) (by kernel_rfl) (fun _ _ _ h => h) (Or.inl ⟨by rfl, ?_⟩) (by assumption) ?_
                  · (intro w hSw; (try dsimp only at hSw); go_simp)
                  (try simp only [Act.put, List.getElem_toArray, List.getElem_cons_succ, List.getElem_cons_zero, List.setIfInBounds_toArray, List.set_cons_zero, List.set_cons_succ])
                  refine wpAnyH_done (by kernel_rfl) ?_ _
                  clear hHeld rg_y0 rg_y2 rg_m0 rg_m1
                  have b8 := (((b1.trans (b2.mono b1.size)).trans (b3.mono (Nat.le_trans b1.size b2.size))).trans (b4.mono (Nat.le_trans b1.size (Nat.le_trans b2.size b3.size))))
                  have B8 := hid (B7d.out.trans (b8.mono B7d.out.size))
                  clear b1 b2 b3 b4 b8 CS1 CS2 CFI CLE m0 m1 y2 y0
                  go_wp2
                  go_roundw
                  case rel => exact ⟨k + 1, by omega, by go_num, by rw [EC.out], B8⟩
                  case measure => simp [intOf]; omega
          · have tp : (q2 != ID) = true := by simpa using hp
            have EB : Hid (bstI l us tc tm (waitF l ws) ID (k + 1) = bstI l us tc tm (waitF l ws) ID k) := by unfold Hid; rw [BS.out, if_neg (fun h => hp h.1)]
            clear BS hp WTW WAN
            go_wp2
            go_roundw
            case rel => exact ⟨k + 1, by omega, by go_num, by rw [EB.out], BA⟩
            case measure => simp [intOf]; omega
        · have hkl : k = l.length := by rw [HLl.out]; omega
          have en : bid l (bstI l us tc tm (waitF l ws) (qa l h).id k) = (qa l b).id := by rw [hkl, HBE.out]; unfold bid; rw [if_neg (by omega), Int.toNat_natCast]
          rw [en]
          have B9 := hid (WB.out.trans (hB.out.mono WB.out.size))
          go_wp2
          go_roundw
          case rel => exact ⟨b, HBL.out, rfl, DD, HBF, B9⟩
          case measure => simp only [intOf]; rw [HPL.out, HPB.out]; have h1 := HHB.out; have h2 := HBL.out; omega

end Go.Proofs.Ytglifgnaecbniaa

namespace Go.Proofs.Ytglifgnaecbniaa
open Go.RowKit Go.Deep Go.Maps Go.Shelf
set_option linter.unusedVariables false
set_option linter.unusedSimpArgs false

theorem ret2i {x e a b : Int} (h : a = x) (h2 : b = e) : Ending.returned (.tuple #[.int .i64 a, .int .i64 b]) = .returned (.tuple #[.int .i64 x, .int .i64 e]) := by rw [h, h2]

set_option maxRecDepth 100000 in
set_option maxHeartbeats 4000000 in
theorem rchoose6_any (a : Option Addr) (len cap : Nat) (l : List Qu) (ub : Option Addr) (n uc : Nat) (us : List Us) (wa : Option Addr) (wn wc : Nat) (ws : List Int) (tc tm : Int) (w : World) (h : HoldsQ w a len cap l) (hok : ∀ q ∈ l, q.ok) (hu : HoldsU w ub n uc us) (hw : HoldsN w wa wn wc ws) :
    Calls Try.prog 13 #[.slice a len cap, .slice ub n uc, .slice wa wn wc, .agg #[.int .i64 tc, .int .i64 tm]] w fun e w' => e = .returned (.tuple #[.int .i64 (chooseR l us ws tc tm), .int .i64 (readE l us ws tc tm)]) ∧ Below w.heap.size w w' := by
  have b0 : Below w.heap.size w (w.alloc (.cells #[.int .i64 tc, .int .i64 tm] 26)) := (Below.refl _ w).alloc (Nat.le_refl _) _
  have CK := hid (rcheck6_any a len cap l ub n uc us wa wn wc ws tc tm (w.alloc (.cells #[.int .i64 tc, .int .i64 tm] 26)) (h.below b0) (hu.below b0) (hw.below b0))
  have HH := hid h
  have HO := hid hok
  have HW := hid hw
  have HL := hid h.1
  have B0 := hid b0
  have m0 : (w.alloc (.cells #[.int .i64 tc, .int .i64 tm] 26)).cell? ⟨w.heap.size, 0, none⟩ = some (.int .i64 tc) := by simp [go_sem]
  have m1 : (w.alloc (.cells #[.int .i64 tc, .int .i64 tm] 26)).cell? ⟨w.heap.size, 1, none⟩ = some (.int .i64 tm) := by simp [go_sem]
  have M0 := hid m0
  have M1 := hid m1
  clear h hok hu hw b0 m0 m1
  by_cases hE : readE l us ws tc tm = 0
  · have CR : Hid (chooseR l us ws tc tm = (qa l (desc l us tc tm (waitF l ws) 0)).id) := by unfold Hid chooseR; rw [if_pos hE]
    have VV : Hid (readV l us ws tc tm = vecsTo l us len) := by unfold Hid readV; rw [if_pos hE, HL.out]
    have VL : Hid ((vecsTo l us len).length = len) := by unfold Hid vecsTo; simp
    have hpos : 0 < len := by have := (chkE_ok.1 (sumsE_zero (readE_zero hE).1).1).2.1.1; rw [HL.out] at this; exact this
    have PK := hid (fun lb lo sb so sc W (hx : HoldsQ W (some ⟨lb, lo, none⟩) len cap l) (hy : HoldsV W (some ⟨sb, so, none⟩) len sc (vecsTo l us len)) (hz : HoldsN W wa wn wc ws) => rpick_any lb lo len cap l sb so sc us wa wn wc ws tc tm W hx HO.out hy hz hE)
    rw [← CR.out] at PK
    rw [VV.out, VL.out, hE] at CK
    have EE := hid hE
    clear hE
    obtain ⟨lb, lo, rfl, _⟩ := HH.out.row hpos
    go_enter Try.func13, Try.ntmps13
    go_wp2_with fail
    refine CK.out.mono ?_
    rintro e w1 ⟨v1, rfl, o1, b1⟩
    obtain ⟨a1, c1, rfl⟩ := o1.form
    have P1 := hid (o1.holds encV_len)
    obtain ⟨sb, so, rfl, _⟩ := P1.out.rowV hpos
    have B1 := hid (B0.out.trans (b1.mono B0.out.size))
    have m0 := keepc b1 M0.out
    have m1 := keepc b1 M1.out
    clear b1 o1 CK
    go_wp2_with fail
    refine (PK.out lb lo sb so c1 _ (HH.out.below B1.out) P1.out (HW.out.below B1.out)).mono ?_
    rintro e w2 ⟨rfl, b2⟩
    have B2 := hid (B1.out.trans (b2.mono B1.out.size))
    go_wp2
    go_ret2
    exact ⟨ret2i rfl EE.out.symm, B2.out⟩
  · have CR : Hid (chooseR l us ws tc tm = 0) := by unfold Hid chooseR; rw [if_neg hE]
    have t : (readE l us ws tc tm != 0) = true := by simpa using hE
    clear hE
    generalize readE l us ws tc tm = E at *
    go_enter Try.func13, Try.ntmps13
    go_wp2_with fail
    refine CK.out.mono ?_
    rintro e w1 ⟨v1, rfl, o1, b1⟩
    have B1 := hid (B0.out.trans (b1.mono B0.out.size))
    clear b1 o1 CK
    go_wp2
    go_ret2
    exact ⟨ret2i CR.out.symm rfl, B1.out⟩

end Go.Proofs.Ytglifgnaecbniaa

namespace Go.Proofs.Ytglifgnaecbniaa
open Go.RowKit Go.Deep Go.Maps Go.Shelf
set_option linter.unusedVariables false
set_option linter.unusedSimpArgs false

theorem OwnE.far {α : Type} {e : TypeId} {k : Nat} {enc : α → List Value} {base n : Nat} {l : List α} {v : Value} {w w' : World} {row : Option Nat} (h : OwnE e k enc base w v n l) (hb : w.grownBy w' row) (hne : ∀ g, v.ownBlock = some g → row ≠ some g) : OwnE e k enc base w' v n l := by
  have hlt := h.lt
  obtain ⟨h0, h1, h2⟩ := h
  refine ⟨h0, h1, ?_⟩
  rcases h2 with h2 | ⟨g, cap, cur, hv, hg, hh, r⟩
  · exact .inl h2
  · refine .inr ⟨g, cap, cur, hv, hg, ?_, r⟩
    have hg' : v.ownBlock = some g := by rw [hv]; rfl
    rw [hb.block g (hlt g hg').2 (fun e => hne g hg' e.symm)]
    exact hh
def slen : Value → Nat
  | .slice _ n _ => n
  | _ => 0
theorem want_le6 {l : List Qu} {us : List Us} {ws : List Int} {tc tm : Int} (hE : readE l us ws tc tm = 0) : ws.length ≤ 64 := by
  obtain ⟨hS, _, hr, h0, hth, _⟩ := readE_zero hE
  have hG := chkE_ok.1 (sumsE_zero hS).1
  have hall : ∀ y ∈ ws, hasQ l y = true := by unfold allThere at hth; rwa [List.all_eq_true] at hth
  have h1 := place_le hG.2.1 hr (ws.length - 1) (by omega) (fun x hx => hall x (List.mem_of_mem_take hx))
  have h2 : pl l (na ws (ws.length - 1)) < l.length := of_decide_eq_true (hall _ (na_mem (by omega)))
  have h3 := hG.1
  omega

set_option maxRecDepth 100000 in
set_option maxHeartbeats 4000000 in
theorem rorder_no (a : Option Addr) (len cap : Nat) (l : List Qu) (ub : Option Addr) (n uc : Nat) (us : List Us) (wa : Option Addr) (wn wc : Nat) (ws : List Int) (tc tm : Int) (w : World) (h : HoldsQ w a len cap l) (hok : ∀ q ∈ l, q.ok) (hu : HoldsU w ub n uc us) (hw : HoldsN w wa wn wc ws) (hE : readE l us ws tc tm ≠ 0) :
    Calls Try.prog 15 #[.slice a len cap, .slice ub n uc, .slice wa wn wc, .agg #[.int .i64 tc, .int .i64 tm]] w fun e w' => e = .returned (.tuple #[.slice none 0 0, .int .i64 (readE l us ws tc tm)]) ∧ Below w.heap.size w w' := by
  have b0 : Below w.heap.size w (w.alloc (.cells #[.int .i64 tc, .int .i64 tm] 26)) := (Below.refl _ w).alloc (Nat.le_refl _) _
  have CK := hid (rcheck6_any a len cap l ub n uc us wa wn wc ws tc tm (w.alloc (.cells #[.int .i64 tc, .int .i64 tm] 26)) (h.below b0) (hu.below b0) (hw.below b0))
  have B0 := hid b0
  have t : (readE l us ws tc tm != 0) = true := by simpa using hE
  clear h hok hu hw b0 hE
  generalize readE l us ws tc tm = E at *
  go_enter Try.func15, Try.ntmps15
  go_wp2_with fail
  refine CK.out.mono ?_
  rintro e w1 ⟨v1, rfl, o1, b1⟩
  have B1 := hid (B0.out.trans (b1.mono B0.out.size))
  clear b1 o1 CK
  go_wp2
  go_ret2
  exact ⟨rfl, B1.out⟩

set_option maxRecDepth 100000 in
set_option maxHeartbeats 4000000 in
theorem rorder_yes (a : Option Addr) (len cap : Nat) (l : List Qu) (ub : Option Addr) (n uc : Nat) (us : List Us) (wa : Option Addr) (wn wc : Nat) (ws : List Int) (tc tm : Int) (w : World) (h : HoldsQ w a len cap l) (hok : ∀ q ∈ l, q.ok) (hu : HoldsU w ub n uc us) (hw : HoldsN w wa wn wc ws) (hE : readE l us ws tc tm = 0) :
    Calls Try.prog 15 #[.slice a len cap, .slice ub n uc, .slice wa wn wc, .agg #[.int .i64 tc, .int .i64 tm]] w fun e w' => ∃ v, e = .returned (.tuple #[v, .int .i64 0]) ∧ OwnN w.heap.size w' v ws.length (ordTo l us ws tc tm ws.length) ∧ Below w.heap.size w w' := by
  have b0 : Below w.heap.size w (w.alloc (.cells #[.int .i64 tc, .int .i64 tm] 26)) := (Below.refl _ w).alloc (Nat.le_refl _) _
  have CK := hid (rcheck6_any a len cap l ub n uc us wa wn wc ws tc tm (w.alloc (.cells #[.int .i64 tc, .int .i64 tm] 26)) (h.below b0) (hu.below b0) (hw.below b0))
  have HH := hid h
  have HO := hid hok
  have HW := hid hw
  have HL := hid h.1
  have WL := hid hw.1
  have wcap := hw.2.1
  have B0 := hid b0
  have m0 : (w.alloc (.cells #[.int .i64 tc, .int .i64 tm] 26)).cell? ⟨w.heap.size, 0, none⟩ = some (.int .i64 tc) := by simp [go_sem]
  have m1 : (w.alloc (.cells #[.int .i64 tc, .int .i64 tm] 26)).cell? ⟨w.heap.size, 1, none⟩ = some (.int .i64 tm) := by simp [go_sem]
  have M0 := hid m0
  have M1 := hid m1
  clear h hok hu hw b0 m0 m1
  have VV : Hid (readV l us ws tc tm = vecsTo l us len) := by unfold Hid readV; rw [if_pos hE, HL.out]
  have VL : Hid ((vecsTo l us len).length = len) := by unfold Hid vecsTo; simp
  have hpos : 0 < len := by have := (chkE_ok.1 (sumsE_zero (readE_zero hE).1).1).2.1.1; rw [HL.out] at this; exact this
  have w64 : wn ≤ 64 := by rw [← WL.out]; exact want_le6 hE
  have PK := hid (fun lb lo sb so sc xa xn xc xs W (hx : HoldsQ W (some ⟨lb, lo, none⟩) len cap l) (hy : HoldsV W (some ⟨sb, so, none⟩) len sc (vecsTo l us len)) (hz : HoldsN W xa xn xc xs) (he : readE l us xs tc tm = 0) => rpick_any lb lo len cap l sb so sc us xa xn xc xs tc tm W hx HO.out hy hz he)
  rw [VV.out, VL.out, hE] at CK
  have EE := hid hE
  clear hE
  obtain ⟨lb, lo, rfl, _⟩ := HH.out.row hpos
  go_enter Try.func15, Try.ntmps15
  go_wp2_with fail
  refine CK.out.mono ?_
  rintro e w1 ⟨v1, rfl, o1, b1⟩
  obtain ⟨a1, c1, rfl⟩ := o1.form
  have P1 := hid (o1.holds encV_len)
  obtain ⟨sb, so, rfl, _⟩ := P1.out.rowV hpos
  have B1 := hid (B0.out.trans (b1.mono B0.out.size))
  have N0 := hid (keepc b1 M0.out)
  have N1 := hid (keepc b1 M1.out)
  clear b1 o1 CK
  have kE : Below w1.heap.size w1 (w1.alloc (.cells #[] 3)) := (Below.refl _ w1).alloc (Nat.le_refl _) _
  have oL := hid (OwnE.lit 3 1 encN w1)
  have hWL := hid ((HW.out.below B1.out).below kE)
  have KE := hid kE
  clear kE
  go_wp2_with (at_builtin; refine cat_ownE 24 3 _ 8 encN_len encN_one Try.underlying24 infoN rfl (by decide) _ rfl (.tmp 29) (.tmp 30) rfl w1.heap.size 0 _ [] rfl oL.out KE.out.size wa wn wc ws rfl hWL.out (by omega) (by omega) ?_)
  intro v2 w2 o2 b2 _
  have B2 := hid (KE.out.trans b2)
  have O2 := hid o2
  have ODL := hid (ordTo_len l us ws tc tm ws.length)
  clear o2 b2 oL hWL KE
  go_wp2_with fail
  go_loopw [12, 13] (fun v x wr => ∃ (k m : Nat) (ol xs : List Int), k + m = wn ∧ xs.length = m ∧ Hid (OwnN w1.heap.size wr v k ol) ∧ Hid (OwnN w1.heap.size wr x m xs) ∧ Hid (∀ g, x.ownBlock = some g → v.ownBlock ≠ some g) ∧ Hid (ol ++ ordTo l us xs tc tm m = ordTo l us ws tc tm ws.length) ∧ Hid (m ≠ 0 → readE l us xs tc tm = 0) ∧ Hid (Below w1.heap.size w1 wr)) (fun v x _ => slen x)
  case atStart => exact ⟨0, wn, [], ws, by omega, WL.out, OwnE.nil _ _ _ _ _, O2, (fun g _ h => by cases h), by rw [WL.out]; rfl, fun _ => EE.out, B2⟩
  case round =>
    obtain ⟨k, m, ol, xs, hkm, hxl, ho, hx, hne, hor, hE, hB⟩ := hrel
    obtain ⟨xa, xc, rfl⟩ := hx.out.form
    by_cases hm : 0 < m
    · have hE' := hE.out (by omega)
      have hbm := turn_mem hE'
      have hc : chooseR l us xs tc tm = (qa l (desc l us tc tm (waitF l xs) 0)).id := by unfold chooseR; rw [if_pos hE']
      rw [← hc] at hbm
      have hpw := rise_pair.1 (readE_zero hE').2.2.1
      have hwl : Hid ((wout xs (chooseR l us xs tc tm)).length = m - 1) := wout_len hpw hbm (by omega)
      have OW : Hid ((ol ++ [chooseR l us xs tc tm]) ++ ordTo l us (wout xs (chooseR l us xs tc tm)) tc tm (m - 1) = ordTo l us ws tc tm ws.length) := by
        unfold Hid
        rw [← hor.out]
        have e1 := ord_wout hE' (m - 1)
        rw [show m - 1 + 1 = m by omega] at e1
        rw [e1, List.append_assoc]
        rfl
      have RW : Hid (m - 1 ≠ 0 → readE l us (wout xs (chooseR l us xs tc tm)) tc tm = 0) := fun hn => read_wout hE' (by rw [hwl.out]; exact hn)
      have PX := hid (PK.out lb lo sb so c1 xa m xc xs wr (HH.out.below (B1.out.trans (hB.out.mono B1.out.size))) (P1.out.below hB.out) (hx.out.holds encN_len) hE')
      rw [← hc] at PX
      have m0 := keepc hB.out N0.out
      have m1 := keepc hB.out N1.out
      have t0 : decide ((0 : Int) < (m : Int)) = true := decide_eq_true (by omega)
      generalize chooseR l us xs tc tm = C at *
      clear hE hor hc hbm hpw hE'
      go_wp2_with fail
      refine PX.out.mono ?_
      rintro e w3 ⟨rfl, b3⟩
      have B3 := hid (hB.out.trans (b3.mono hB.out.size))
      have o3 := hid (ho.out.below b3)
      have x3 := hid (hx.out.below b3)
      have s3 := B3.out.size
      clear m0 m1 b3 PX hB ho hx
      go_wp2_with (at_builtin; refine push_ownN w3 C rfl (.tmp 40) (.tmp 42) rfl w1.heap.size k u12 _ rfl o3.out s3 rfl (by omega) ?_)
      intro v4 w4 o4 b4 g4
      have x4 := hid (x3.out.far g4 (fun g hg => hne.out g hg))
      have B4 := hid (B3.out.trans b4)
      have O4 := hid o4
      have s4 := B4.out.size
      have XH := hid (x4.out.holds encN_len)
      have xcap := XH.out.2.1
      have XL := hid hxl
      clear b4 g4 o4 o3 x3 hne B3 s3 hxl
      go_wp2_with fail
      go_loopw [46, 15] (fun i v wr => ∃ j : Nat, j ≤ m ∧ i = .int .i64 (j : Int) ∧ Hid (OwnN w4.heap.size wr v (wout (xs.take j) C).length (wout (xs.take j) C)) ∧ Hid (Below w4.heap.size w4 wr)) (fun i _ _ => m - (intOf i).toNat)
      case atStart => exact ⟨0, by omega, rfl, OwnE.nil _ _ _ _ _, Below.refl _ _⟩
      case round =>
        obtain ⟨j, hj, rfl, hy, hB⟩ := hrel
        by_cases hlt : j < m
        · have hlt' : j < xs.length := by rw [XL.out]; exact hlt
          obtain ⟨qb, qo, e, R⟩ := (XH.out.below hB.out).rowA (by omega)
          subst e
          have c0 := R j hlt
          have tkk : xs.take (j + 1) = xs.take j ++ [na xs j] := by rw [List.take_add_one, na_get hlt']; rfl
          have wl : (wout (xs.take j) C).length ≤ 1000000 - 1 := by
            have h1 : (wout (xs.take j) C).length ≤ (xs.take j).length := List.length_filter_le ..
            rw [List.length_take] at h1
            omega
          have ka : (0 : Int) ≤ (j : Int) := by omega
          have kb : (j : Int) < (m : Int) := by omega
          by_cases e : na xs j = C
          · have ew : Hid (wout (xs.take (j + 1)) C = wout (xs.take j) C) := by unfold Hid wout; rw [tkk, List.filter_append]; simp [e]
            have te : (na xs j != C) = false := by simpa using e
            clear tkk e R
            generalize na xs j = x at *
            go_wp2
            go_roundw
            case rel => exact ⟨j + 1, by omega, by go_num, by rw [ew.out]; exact hy, hB⟩
            case measure => simp [intOf]; omega
          · have ew : Hid (wout (xs.take (j + 1)) C = wout (xs.take j) C ++ [na xs j]) := by unfold Hid wout; rw [tkk, List.filter_append]; simp [e]
            have te : (na xs j != C) = true := by simpa using e
            clear tkk e R
            generalize na xs j = x at *
            go_wp2_with (at_builtin; refine push_ownN wr x rfl (.tmp 53) (.tmp 55) rfl w4.heap.size _ u15 _ rfl hy.out hB.out.size rfl (by omega) ?_)
            intro v6 w6 o6 b6 g6
            rw [← ew.out] at o6
            have el : (wout (xs.take j) C).length + 1 = (wout (xs.take (j + 1)) C).length := by rw [ew.out]; simp
            rw [el] at o6
            have O6 := hid o6
            have B6 := hid (hB.out.trans b6)
            clear o6 b6 g6
            go_wp2
            go_roundw
            case rel => exact ⟨j + 1, by omega, by go_num, O6, B6⟩
            case measure => simp [intOf]; omega
        · have tk : xs.take j = xs := List.take_of_length_le (by rw [XL.out]; omega)
          rw [tk, hwl.out] at hy
          have O5 := hid (O4.out.below hB.out)
          have NE : Hid (∀ g, u15.ownBlock = some g → v4.ownBlock ≠ some g) := fun g hg hv => by
            have h1 := hy.out.lt g hg
            have h2 := O4.out.lt g hv
            omega
          have Y5 := hid (hy.out.weaken (b' := w1.heap.size) s4)
          have B5 := hid (B4.out.trans (hB.out.mono s4))
          obtain ⟨ya, yc, e⟩ := hy.out.form
          subst e
          clear hy hB
          go_wp2
          go_roundw
          case rel => exact ⟨k + 1, m - 1, ol ++ [C], wout xs C, by omega, hwl.out, O5, Y5, NE, OW, RW, B5⟩
          case measure => simp [slen]; omega
    · have m0 : m = 0 := by omega
      have kw : k = ws.length := by rw [WL.out]; omega
      have OX : Hid (ol = ordTo l us ws tc tm ws.length) := by
        have h := hor.out
        rw [m0] at h
        unfold ordTo at h
        rw [List.range_zero, List.map_nil, List.append_nil] at h
        exact h
      have t0 : decide ((0 : Int) < (m : Int)) = false := decide_eq_false (by omega)
      have OF : Hid (OwnN w.heap.size wr u12 ws.length (ordTo l us ws tc tm ws.length)) := by
        unfold Hid
        rw [← OX.out, ← kw]
        exact ho.out.weaken B1.out.size
      have BF := hid (B1.out.trans (hB.out.mono B1.out.size))
      clear kw m0 hor
      go_wp2
      go_ret2
      exact ⟨_, rfl, OF.out, BF.out⟩

end Go.Proofs.Ytglifgnaecbniaa
