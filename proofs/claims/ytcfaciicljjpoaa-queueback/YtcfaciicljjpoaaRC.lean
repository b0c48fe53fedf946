/-
  The document's answer for queues: Leaves, Children, Path, Below.
-/
import Derived.Test.YtcfaciicljjpoaaRA
import Derived.Test.YtcfaciicljjpoaaRB
namespace Go.Proofs.Ytcfaciicljjpoaa
open Go.RowKit Go.Deep Go.Maps Go.Shelf
set_option linter.unusedVariables false

theorem rthere_any (a : Option Addr) (len cap : Nat) (l : List Qu) (id : Int) (w : World) (h : HoldsQ w a len cap l) :
    Calls Try.prog 61 #[.slice a len cap, .int .i64 id] w fun e w' => e = .returned (.int .i64 (thereE l id)) ∧ Below w.heap.size w w' := by
  have HC := hid (rcheckq_any a len cap l w h)
  have HH := hid h
  clear h
  by_cases hE : chkE l = 0
  · have HX := hid (fun W (hW : Below w.heap.size w W) => rhas_any a len cap l id W (HH.out.below hW))
    rw [hE] at HC
    cases hx : hasQ l id
    · have EE : Hid (thereE l id = 8) := by unfold Hid thereE; rw [if_neg (by rw [hE]; decide), if_pos hx]
      rw [hx] at HX
      clear hE hx
      go_enter Try.func61, Try.ntmps61
      go_wp2_with fail
      refine HC.out.mono ?_
      rintro e w1 ⟨rfl, b1⟩
      go_wp2_with fail
      refine (HX.out w1 b1).mono ?_
      rintro e w2 ⟨rfl, b2⟩
      have hB := b1.trans (b2.mono b1.size)
      go_wp2
      go_ret
      exact ⟨ret1 EE.out.symm, hB⟩
    · have EE : Hid (thereE l id = 0) := by unfold Hid thereE; rw [if_neg (by rw [hE]; decide), if_neg (by rw [hx]; decide)]
      rw [hx] at HX
      clear hE hx
      go_enter Try.func61, Try.ntmps61
      go_wp2_with fail
      refine HC.out.mono ?_
      rintro e w1 ⟨rfl, b1⟩
      go_wp2_with fail
      refine (HX.out w1 b1).mono ?_
      rintro e w2 ⟨rfl, b2⟩
      have hB := b1.trans (b2.mono b1.size)
      go_wp2
      go_ret
      exact ⟨ret1 EE.out.symm, hB⟩
  · have EE : Hid (thereE l id = chkE l) := by unfold Hid thereE; rw [if_pos hE]
    have t : (chkE l == 0) = false := by simpa using hE
    clear hE
    rw [EE.out]
    generalize chkE l = E at *
    go_enter Try.func61, Try.ntmps61
    go_wp2_with fail
    refine HC.out.mono ?_
    rintro e w1 ⟨rfl, b1⟩
    go_wp2
    go_ret
    exact ⟨rfl, b1⟩

set_option maxRecDepth 100000 in
set_option maxHeartbeats 2000000 in
theorem rleaves_any (a : Option Addr) (len cap : Nat) (l : List Qu) (w : World) (h : HoldsQ w a len cap l) :
    Calls Try.prog 24 #[.slice a len cap] w fun e w' => ∃ v, e = .returned (.tuple #[v, .int .i64 (chkE l)]) ∧ AnsN w.heap.size w' v (leavesR l) ∧ Below w.heap.size w w' := by
  have HC := hid (rcheckq_any a len cap l w h)
  have HL := hid h.1
  have hcap := h.2.1
  have hcm := h.2.2.1
  have HH := hid h
  clear h
  by_cases hE : chkE l = 0
  · have HE := hid hE
    have EL : Hid (leavesR l = idsAt l (leafs l)) := by unfold Hid leavesR; rw [if_pos hE]
    have hG := chkE_ok.1 hE
    have hp : 0 < len := by have := hG.2.1.1; rw [HL.out] at this; exact this
    have hm : len ≤ 64 := by rw [← HL.out]; exact hG.1
    have FP := hid hG.2.1
    obtain ⟨b, off, rfl, R⟩ := HH.out.row hp
    have HR := hid R
    rw [hE] at HC
    clear hE hG R
    go_enter Try.func24, Try.ntmps24
    go_wp2_with fail
    refine HC.out.mono ?_
    rintro e w0 ⟨rfl, b0⟩
    go_wp2_with fail
    go_loopw [5, 12] (fun m i wr => ∃ k : Nat, k ≤ len ∧ i = .int .i64 k ∧ Hid (OwnN w.heap.size wr m (leafsTo l k).length (idsAt l (leafsTo l k))) ∧ Below w.heap.size w wr) (fun _ i _ => len - (intOf i).toNat)
    case atStart => exact ⟨0, by omega, rfl, OwnE.nil _ _ _ _ _, b0⟩
    case round =>
      obtain ⟨k, hk, rfl, ho, hB⟩ := hrel
      by_cases hlt : k < len
      · have hlt' : k < l.length := by rw [HL.out]; exact hlt
        obtain ⟨c0, c1, c2, c3, c4, c5, c6⟩ := (HR.out.below hB).2 k hlt'
        have LF := hid (fun W (hW : Below w.heap.size w W) => rleaf_any b off len cap l (qa l k).id W (HH.out.below hW) hp hm)
        have hq : hasQ l (qa l k).id = true := decide_eq_true (by rw [FP.out.pl hlt']; exact hlt')
        rw [hq, Bool.true_and] at LF
        clear hq
        cases hx : leafB l (qa l k).id
        · have K1 := hid (leafsTo_no hlt' hx)
          rw [hx] at LF
          clear hx
          generalize qa l k = q at *
          obtain ⟨q1, q2, q3, q4, q5, q6, q7⟩ := q
          simp only at *
          go_wp2_with fail
          refine (LF.out _ (hB.alloc hB.size _)).mono ?_
          rintro e w1 ⟨rfl, h1⟩
          have hA : Below wr.heap.size wr w1 := ((Below.refl _ wr).alloc (Nat.le_refl _) (.cells #[.int .i64 q1, .int .i64 q2, .int .i64 q3, .int .i64 q4, .int .i64 q5, .int .i64 q6, .int .i64 q7] 26)).trans (h1.mono (by simp))
          have ho2 := hid (ho.out.below hA)
          have hB2 := hB.trans (hA.mono hB.size)
          clear h1 hA ho
          go_wp2
          go_roundw
          case rel => exact ⟨k + 1, by omega, by go_num, by rw [K1.out]; exact ho2, hB2⟩
          case measure => simp [intOf]; omega
        · have K1 := hid (leafsTo_yes hlt' hx)
          have K2 := hid (idsAt_snoc (leafsTo l k) ⟨k, hlt'⟩)
          have K3 : (leafsTo l k).length ≤ 64 := by
            have := (leafsTo_pre l k).length_le
            have := filter_len (l := l) (p := fun i => leafB l (qa l i.val).id) (by rw [HL.out]; exact hm)
            unfold leafs at *
            omega
          rw [hx] at LF
          clear hx
          simp only at K2
          generalize qa l k = q at *
          obtain ⟨q1, q2, q3, q4, q5, q6, q7⟩ := q
          simp only at *
          go_wp2_with fail
          refine (LF.out _ (hB.alloc hB.size _)).mono ?_
          rintro e w1 ⟨rfl, h1⟩
          have m0 := keepc h1 (a := ⟨wr.heap.size, 0, none⟩) (v := .int .i64 q1) (by simp [go_sem])
          have hA : Below wr.heap.size wr w1 := ((Below.refl _ wr).alloc (Nat.le_refl _) (.cells #[.int .i64 q1, .int .i64 q2, .int .i64 q3, .int .i64 q4, .int .i64 q5, .int .i64 q6, .int .i64 q7] 26)).trans (h1.mono (by simp))
          have ho2 := hid (ho.out.below hA)
          have hB2 := hB.trans (hA.mono hB.size)
          clear h1 hA ho
          go_wp2_with (at_builtin; refine push_ownN w1 q1 rfl (.tmp 24) (.tmp 27) rfl w.heap.size (leafsTo l k).length u5 (idsAt l (leafsTo l k)) rfl ho2.out hB2.size rfl (by omega) ?_)
          intro v' w2 h1 h2 _
          have O1 := hid h1
          have hB3 := hB2.trans h2
          clear h1 h2
          go_wp2
          go_roundw
          case rel => exact ⟨k + 1, by omega, by go_num, by rw [K1.out, K2.out, List.length_append]; exact O1.out, hB3⟩
          case measure => simp [intOf]; omega
      · have E : Hid (leafsTo l k = leafs l) := by have e : k = l.length := (by rw [HL.out]; omega)
                                                   unfold Hid; rw [e]; exact leafsTo_all l
        rw [E.out] at ho
        go_wp2
        rw [HE.out, EL.out]
        go_ret2
        exact ⟨_, rfl, ansN_of ho.out, hB⟩
  · have EL : Hid (leavesR l = []) := by unfold Hid leavesR; rw [if_neg hE]
    have t : (chkE l == 0) = false := by simpa using hE
    clear hE
    rw [EL.out]
    clear EL
    generalize chkE l = E at *
    rcases Nat.eq_zero_or_pos len with rfl | hp
    · go_enter Try.func24, Try.ntmps24
      go_wp2_with fail
      refine HC.out.mono ?_
      rintro e w0 ⟨rfl, b0⟩
      go_wp2_with fail
      refine wp_loop_rounds 1 ?_
      rw [rounds_succ]
      go_wp2
      go_ret2
      exact ⟨_, rfl, AnsN.nil _ _, b0⟩
    · obtain ⟨b, off, rfl, R⟩ := HH.out.row hp
      have HR := hid R
      clear R
      go_enter Try.func24, Try.ntmps24
      go_wp2_with fail
      refine HC.out.mono ?_
      rintro e w0 ⟨rfl, b0⟩
      go_wp2_with fail
      go_loopw [5, 12] (fun m i wr => ∃ k : Nat, k ≤ len ∧ i = .int .i64 k ∧ m = .slice none 0 0 ∧ Below w.heap.size w wr) (fun _ i _ => len - (intOf i).toNat)
      case atStart => exact ⟨0, by omega, rfl, rfl, b0⟩
      case round =>
        obtain ⟨k, hk, rfl, rfl, hB⟩ := hrel
        by_cases hlt : k < len
        · have hlt' : k < l.length := by rw [HL.out]; exact hlt
          obtain ⟨c0, c1, c2, c3, c4, c5, c6⟩ := (HR.out.below hB).2 k hlt'
          generalize qa l k = q at *
          obtain ⟨q1, q2, q3, q4, q5, q6, q7⟩ := q
          simp only at *
          go_wp2
          go_roundw
          case rel => exact ⟨k + 1, by omega, by go_num, rfl, hB.alloc hB.size _⟩
          case measure => simp [intOf]; omega
        · go_wp2
          go_ret2
          exact ⟨_, rfl, AnsN.nil _ _, hB⟩

theorem pth_ltR {l : List Qu} {P i : Nat} (h : P < l.length) (hi : i ∈ pth l P) : i < l.length := Nat.lt_of_le_of_lt (pth_le P i hi) h
theorem id_injR {l : List Qu} (hF : Form l) {i j : Nat} (hi : i < l.length) (hj : j < l.length) (e : (qa l i).id = (qa l j).id) : i = j := by
  have h1 := hF.pl hi
  rw [e, hF.pl hj] at h1
  exact h1.symm
theorem hasN_atR {l : List Qu} (hF : Form l) {ps : List Nat} (hps : ∀ i ∈ ps, i < l.length) {k : Nat} (hk : k < l.length) : hasN (ps.map (fun i => (qa l i).id)) (qa l k).id = decide (k ∈ ps) := by
  rw [Bool.eq_iff_iff, hasN_iff, decide_eq_true_eq, List.mem_map]
  constructor
  · rintro ⟨i, hi, e⟩
    rw [← id_injR hF (hps i hi) hk e]; exact hi
  · intro h; exact ⟨k, h, rfl⟩
/-- Is a queue below another one, by the path's Ids? -/
theorem pth_under {l : List Qu} (hF : Form l) {id : Int} (hi : pl l id < l.length) {k : Nat} (hk : k < l.length) : hasN ((pth l k).map (fun i => (qa l i).id)) id = decide (pl l id ∈ pth l k) := by
  have := hasN_atR hF (ps := pth l k) (fun i h => pth_ltR hk h) hi
  rw [pl_id hi] at this
  exact this
def downsTo (l : List Qu) (P k : Nat) : List (Fin l.length) := (upF l k).filter (fun j => decide (P ∈ pth l j.val))
theorem downsTo_all (l : List Qu) (P : Nat) : downsTo l P l.length = downs l P := by unfold downsTo downs; rw [upF_all]
theorem downsTo_yes {l : List Qu} {P k : Nat} (h : k < l.length) (e : decide (P ∈ pth l k) = true) : downsTo l P (k + 1) = downsTo l P k ++ [⟨k, h⟩] := by
  unfold downsTo; rw [upF_succ h, List.filter_append]; simp at e; simp [e]
theorem downsTo_no {l : List Qu} {P k : Nat} (h : k < l.length) (e : decide (P ∈ pth l k) = false) : downsTo l P (k + 1) = downsTo l P k := by
  unfold downsTo; rw [upF_succ h, List.filter_append]; simp at e; simp [e]
theorem downsTo_pre (l : List Qu) (P k : Nat) : downsTo l P k <+: downs l P := (upF_pre l k).filter _

set_option maxRecDepth 100000 in
set_option maxHeartbeats 2000000 in
theorem rbelow_any (b off len cap : Nat) (l : List Qu) (id : Int) (w : World) (h : HoldsQ w (some ⟨b, off, none⟩) len cap l) (hp : 0 < len) (hm : len ≤ 64) (hF : Form l) (hi : pl l id < l.length) :
    Calls Try.prog 65 #[.slice (some ⟨b, off, none⟩) len cap, .int .i64 id] w fun e w' => ∃ v, e = .returned v ∧ AnsN w.heap.size w' v (idsAt l (downs l (pl l id))) ∧ Below w.heap.size w w' := by
  have HL := hid h.1
  have hcap := h.2.1
  have HH := hid h
  obtain ⟨b', off', e, R⟩ := h.row hp
  cases e
  have HR := hid R
  have FP := hid hF
  have HI := hid hi
  clear R h hF hi
  go_enter Try.func65, Try.ntmps65
  go_wp2_with fail
  go_loopw [5, 10] (fun m i wr => ∃ k : Nat, k ≤ len ∧ i = .int .i64 k ∧ Hid (OwnN w.heap.size wr m (downsTo l (pl l id) k).length (idsAt l (downsTo l (pl l id) k))) ∧ Below w.heap.size w wr) (fun _ i _ => len - (intOf i).toNat)
  case atStart => exact ⟨0, by omega, rfl, OwnE.nil _ _ _ _ _, Below.refl _ _⟩
  case round =>
    obtain ⟨k, hk, rfl, ho, hB⟩ := hrel
    by_cases hlt : k < len
    · have hlt' : k < l.length := by rw [HL.out]; exact hlt
      obtain ⟨c0, c1, c2, c3, c4, c5, c6⟩ := (HR.out.below hB).2 k hlt'
      have PA := hid (fun W (hW : Below w.heap.size w W) => rpath_any b off len cap l (qa l k).id W (HH.out.below hW) hm FP.out (by rw [FP.out.pl hlt']; exact hlt'))
      rw [FP.out.pl hlt'] at PA
      have U := hid (pth_under FP.out HI.out hlt')
      have PL : ((pth l k).map (fun i => (qa l i).id)).length ≤ 64 := by have := pth_len (l := l) k; rw [List.length_map]; have := HL.out; omega
      cases hx : decide (pl l id ∈ pth l k)
      · have K1 := hid (downsTo_no hlt' hx)
        rw [hx] at U
        clear hx
        generalize (pth l k).map (fun i => (qa l i).id) = path at *
        generalize pl l id = P at *
        generalize qa l k = q at *
        obtain ⟨q1, q2, q3, q4, q5, q6, q7⟩ := q
        simp only at *
        go_wp2_with fail
        refine (PA.out _ (hB.alloc hB.size _)).mono ?_
        rintro e w1 ⟨v1, rfl, o1, h1⟩
        have hA : Below wr.heap.size wr w1 := ((Below.refl _ wr).alloc (Nat.le_refl _) (.cells #[.int .i64 q1, .int .i64 q2, .int .i64 q3, .int .i64 q4, .int .i64 q5, .int .i64 q6, .int .i64 q7] 26)).trans (h1.mono (by simp))
        have ho2 := hid (ho.out.below hA)
        have hB2 := hB.trans (hA.mono hB.size)
        unfold AnsN at o1
        obtain ⟨a1, d1, rfl⟩ := o1.form
        have P1 := hid (o1.holds encN_len)
        clear h1 hA ho o1
        go_wp2_with fail
        refine (hasN_any a1 _ d1 path id w1 P1.out (by omega)).mono ?_
        rintro e w2 ⟨rfl, rfl⟩
        rw [U.out]
        go_wp2
        go_roundw
        case rel => exact ⟨k + 1, by omega, by go_num, by rw [K1.out]; exact ho2, hB2⟩
        case measure => simp [intOf]; omega
      · have K1 := hid (downsTo_yes hlt' hx)
        have K2 := hid (idsAt_snoc (downsTo l (pl l id) k) ⟨k, hlt'⟩)
        have K3 : (downsTo l (pl l id) k).length ≤ 64 := by
          have := (downsTo_pre l (pl l id) k).length_le
          have := filter_len (l := l) (p := fun j => decide (pl l id ∈ pth l j.val)) (by rw [HL.out]; exact hm)
          unfold downs at *
          omega
        rw [hx] at U
        clear hx
        simp only at K2
        generalize (pth l k).map (fun i => (qa l i).id) = path at *
        generalize pl l id = P at *
        generalize qa l k = q at *
        obtain ⟨q1, q2, q3, q4, q5, q6, q7⟩ := q
        simp only at *
        go_wp2_with fail
        refine (PA.out _ (hB.alloc hB.size _)).mono ?_
        rintro e w1 ⟨v1, rfl, o1, h1⟩
        have m0 := keepc h1 (a := ⟨wr.heap.size, 0, none⟩) (v := .int .i64 q1) (by simp [go_sem])
        have hA : Below wr.heap.size wr w1 := ((Below.refl _ wr).alloc (Nat.le_refl _) (.cells #[.int .i64 q1, .int .i64 q2, .int .i64 q3, .int .i64 q4, .int .i64 q5, .int .i64 q6, .int .i64 q7] 26)).trans (h1.mono (by simp))
        have ho2 := hid (ho.out.below hA)
        have hB2 := hB.trans (hA.mono hB.size)
        unfold AnsN at o1
        obtain ⟨a1, d1, rfl⟩ := o1.form
        have P1 := hid (o1.holds encN_len)
        clear h1 hA ho o1
        go_wp2_with fail
        refine (hasN_any a1 _ d1 path id w1 P1.out (by omega)).mono ?_
        rintro e w2 ⟨rfl, rfl⟩
        rw [U.out]
        go_wp2_with (at_builtin; refine push_ownN w1 q1 rfl (.tmp 20) (.tmp 23) rfl w.heap.size (downsTo l P k).length u5 (idsAt l (downsTo l P k)) rfl ho2.out hB2.size rfl (by omega) ?_)
        intro v' w2 h1 h2 _
        have O1 := hid h1
        have hB3 := hB2.trans h2
        clear h1 h2
        go_wp2
        go_roundw
        case rel => exact ⟨k + 1, by omega, by go_num, by rw [K1.out, K2.out, List.length_append]; exact O1.out, hB3⟩
        case measure => simp [intOf]; omega
    · have E : Hid (downsTo l (pl l id) k = downs l (pl l id)) := by have e : k = l.length := (by rw [HL.out]; omega)
                                                                     unfold Hid; rw [e]; exact downsTo_all l _
      rw [E.out] at ho
      go_wp2
      go_ret
      exact ⟨_, rfl, ansN_of ho.out, hB⟩

set_option maxHeartbeats 1000000 in
theorem rChildren_any (a : Option Addr) (len cap : Nat) (l : List Qu) (id : Int) (w : World) (h : HoldsQ w a len cap l) :
    Calls Try.prog 26 #[.slice a len cap, .int .i64 id] w fun e w' => ∃ v, e = .returned (.tuple #[v, .int .i64 (thereE l id)]) ∧ AnsN w.heap.size w' v (childrenR l id) ∧ Below w.heap.size w w' := by
  have HC := hid (rthere_any a len cap l id w h)
  have HL := hid h.1
  have HH := hid h
  clear h
  by_cases hE : thereE l id = 0
  · have EL : Hid (childrenR l id = idsAt l (kids l id)) := by unfold Hid childrenR; rw [if_pos hE]
    have hc : chkE l = 0 := by unfold thereE at hE; split at hE <;> simp_all
    have hq : hasQ l id = true := by unfold thereE at hE; rw [if_neg (by rw [hc]; decide)] at hE; split at hE <;> simp_all
    have hi : pl l id < l.length := of_decide_eq_true hq
    have hG := chkE_ok.1 hc
    have hp : 0 < len := by have := hG.2.1.1; rw [HL.out] at this; exact this
    have hm : len ≤ 64 := by rw [← HL.out]; exact hG.1
    obtain ⟨b, off, rfl, R⟩ := HH.out.row hp
    have CA := hid (fun W (hW : Below w.heap.size w W) => rchildren_any b off len cap l id W (HH.out.below hW) hp hm)
    rw [EL.out]
    rw [hE] at HC ⊢
    clear hE hc hq hi hG R
    go_enter Try.func26, Try.ntmps26
    go_wp2_with fail
    refine HC.out.mono ?_
    rintro e w1 ⟨rfl, b1⟩
    go_wp2_with fail
    refine (CA.out w1 b1).mono ?_
    rintro e w2 ⟨v2, rfl, o2, b2⟩
    have O2 := hid (o2.weaken b1.size)
    have hB := b1.trans (b2.mono b1.size)
    clear o2 b2
    go_wp2
    go_ret2
    exact ⟨_, rfl, O2.out, hB⟩
  · have EL : Hid (childrenR l id = []) := by unfold Hid childrenR; rw [if_neg hE]
    have t : (thereE l id != 0) = true := by simpa using hE
    rw [EL.out]
    clear hE EL
    generalize thereE l id = E at *
    go_enter Try.func26, Try.ntmps26
    go_wp2_with fail
    refine HC.out.mono ?_
    rintro e w1 ⟨rfl, b1⟩
    go_wp2
    go_ret2
    exact ⟨_, rfl, AnsN.nil _ _, b1⟩

set_option maxHeartbeats 1000000 in
theorem rPath_any (a : Option Addr) (len cap : Nat) (l : List Qu) (id : Int) (w : World) (h : HoldsQ w a len cap l) :
    Calls Try.prog 29 #[.slice a len cap, .int .i64 id] w fun e w' => ∃ v, e = .returned (.tuple #[v, .int .i64 (thereE l id)]) ∧ AnsN w.heap.size w' v (upR l id) ∧ Below w.heap.size w w' := by
  have HC := hid (rthere_any a len cap l id w h)
  have HL := hid h.1
  have HH := hid h
  clear h
  by_cases hE : thereE l id = 0
  · have EL : Hid (upR l id = (pth l (pl l id)).map (fun i => (qa l i).id)) := by unfold Hid upR; rw [if_pos hE]
    have hc : chkE l = 0 := by unfold thereE at hE; split at hE <;> simp_all
    have hq : hasQ l id = true := by unfold thereE at hE; rw [if_neg (by rw [hc]; decide)] at hE; split at hE <;> simp_all
    have hi : pl l id < l.length := of_decide_eq_true hq
    have hG := chkE_ok.1 hc
    have hp : 0 < len := by have := hG.2.1.1; rw [HL.out] at this; exact this
    have hm : len ≤ 64 := by rw [← HL.out]; exact hG.1
    obtain ⟨b, off, rfl, R⟩ := HH.out.row hp
    have CA := hid (fun W (hW : Below w.heap.size w W) => rpath_any b off len cap l id W (HH.out.below hW) hm hG.2.1 hi)
    rw [EL.out]
    rw [hE] at HC ⊢
    clear hE hc hq hi hG R
    go_enter Try.func29, Try.ntmps29
    go_wp2_with fail
    refine HC.out.mono ?_
    rintro e w1 ⟨rfl, b1⟩
    go_wp2_with fail
    refine (CA.out w1 b1).mono ?_
    rintro e w2 ⟨v2, rfl, o2, b2⟩
    have O2 := hid (o2.weaken b1.size)
    have hB := b1.trans (b2.mono b1.size)
    clear o2 b2
    go_wp2
    go_ret2
    exact ⟨_, rfl, O2.out, hB⟩
  · have EL : Hid (upR l id = []) := by unfold Hid upR; rw [if_neg hE]
    have t : (thereE l id != 0) = true := by simpa using hE
    rw [EL.out]
    clear hE EL
    generalize thereE l id = E at *
    go_enter Try.func29, Try.ntmps29
    go_wp2_with fail
    refine HC.out.mono ?_
    rintro e w1 ⟨rfl, b1⟩
    go_wp2
    go_ret2
    exact ⟨_, rfl, AnsN.nil _ _, b1⟩

set_option maxHeartbeats 1000000 in
theorem rBelow_any (a : Option Addr) (len cap : Nat) (l : List Qu) (id : Int) (w : World) (h : HoldsQ w a len cap l) :
    Calls Try.prog 31 #[.slice a len cap, .int .i64 id] w fun e w' => ∃ v, e = .returned (.tuple #[v, .int .i64 (thereE l id)]) ∧ AnsN w.heap.size w' v (downR l id) ∧ Below w.heap.size w w' := by
  have HC := hid (rthere_any a len cap l id w h)
  have HL := hid h.1
  have HH := hid h
  clear h
  by_cases hE : thereE l id = 0
  · have EL : Hid (downR l id = idsAt l (downs l (pl l id))) := by unfold Hid downR; rw [if_pos hE]
    have hc : chkE l = 0 := by unfold thereE at hE; split at hE <;> simp_all
    have hq : hasQ l id = true := by unfold thereE at hE; rw [if_neg (by rw [hc]; decide)] at hE; split at hE <;> simp_all
    have hi : pl l id < l.length := of_decide_eq_true hq
    have hG := chkE_ok.1 hc
    have hp : 0 < len := by have := hG.2.1.1; rw [HL.out] at this; exact this
    have hm : len ≤ 64 := by rw [← HL.out]; exact hG.1
    obtain ⟨b, off, rfl, R⟩ := HH.out.row hp
    have CA := hid (fun W (hW : Below w.heap.size w W) => rbelow_any b off len cap l id W (HH.out.below hW) hp hm hG.2.1 hi)
    rw [EL.out]
    rw [hE] at HC ⊢
    clear hE hc hq hi hG R
    go_enter Try.func31, Try.ntmps31
    go_wp2_with fail
    refine HC.out.mono ?_
    rintro e w1 ⟨rfl, b1⟩
    go_wp2_with fail
    refine (CA.out w1 b1).mono ?_
    rintro e w2 ⟨v2, rfl, o2, b2⟩
    have O2 := hid (o2.weaken b1.size)
    have hB := b1.trans (b2.mono b1.size)
    clear o2 b2
    go_wp2
    go_ret2
    exact ⟨_, rfl, O2.out, hB⟩
  · have EL : Hid (downR l id = []) := by unfold Hid downR; rw [if_neg hE]
    have t : (thereE l id != 0) = true := by simpa using hE
    rw [EL.out]
    clear hE EL
    generalize thereE l id = E at *
    go_enter Try.func31, Try.ntmps31
    go_wp2_with fail
    refine HC.out.mono ?_
    rintro e w1 ⟨rfl, b1⟩
    go_wp2
    go_ret2
    exact ⟨_, rfl, AnsN.nil _ _, b1⟩

end Go.Proofs.Ytcfaciicljjpoaa
