/- QueueTrees: for every list of queues and every number the law answers true, and its arguments read as they did. No further conditions. -/
import Derived.Test.YtcfaciicljjpoaaQT
import Derived.Test.YtcfaciicljjpoaaQV
namespace Go.Proofs.Ytcfaciicljjpoaa.queueTrees
open Go.ChangeShapes Go.WideShapes Go.ChangeAt Go.RowKit Go.Deep
set_option linter.unusedVariables false

/-- The Ids of a path. -/
def pids (l : List Qu) (P : Nat) : List Int := (pth l P).map (fun i => (qa l i).id)
theorem pth_head (l : List Qu) (P : Nat) : (pth l P)[0]? = some P := by rw [pth]; rfl
theorem pth_lt {l : List Qu} {P i : Nat} (h : P < l.length) (hi : i ∈ pth l P) : i < l.length := Nat.lt_of_le_of_lt (pth_le P i hi) h
/-- The root is last; each one stands below the next. -/
theorem pth_next {l : List Qu} (hF : Form l) : ∀ P, P < l.length → (pth l P)[(pth l P).length - 1]? = some 0 ∧ ∀ k, k + 1 < (pth l P).length → ∃ i j, (pth l P)[k]? = some i ∧ (pth l P)[k + 1]? = some j ∧ i < l.length ∧ j < l.length ∧ (qa l i).par = (qa l j).id := by
  intro P
  induction P using Nat.strongRecOn with
  | _ P ih =>
    intro hP
    by_cases h : pl l (qa l P).par < P
    · have hj : pl l (qa l P).par < l.length := by omega
      obtain ⟨h1, h2⟩ := ih _ h hj
      have hpos : 0 < (pth l (pl l (qa l P).par)).length := by rw [pth]; simp
      rw [pth_step h]
      constructor
      · rw [List.length_cons, show (pth l (pl l (qa l P).par)).length + 1 - 1 = ((pth l (pl l (qa l P).par)).length - 1) + 1 by omega, List.getElem?_cons_succ]
        exact h1
      · intro k hk
        cases k with
        | zero =>
          refine ⟨P, pl l (qa l P).par, rfl, ?_, hP, hj, (pl_id hj).symm⟩
          rw [List.getElem?_cons_succ]; exact pth_head _ _
        | succ k =>
          rw [List.length_cons] at hk
          rw [List.getElem?_cons_succ, List.getElem?_cons_succ]
          exact h2 k (by omega)
    · have h0 : P = 0 := by
        rcases Nat.eq_zero_or_pos P with h0 | h0
        · exact h0
        · exact absurd (hF.up hP (by omega)) h
      subst h0
      rw [pth_root h]
      exact ⟨rfl, fun k hk => by simp at hk⟩

theorem id_inj {l : List Qu} (hF : Form l) {i j : Nat} (hi : i < l.length) (hj : j < l.length) (e : (qa l i).id = (qa l j).id) : i = j := by
  have h1 := hF.pl hi
  rw [e, hF.pl hj] at h1
  exact h1.symm
theorem hasN_at {l : List Qu} (hF : Form l) {ps : List Nat} (hps : ∀ i ∈ ps, i < l.length) {k : Nat} (hk : k < l.length) : hasN (ps.map (fun i => (qa l i).id)) (qa l k).id = decide (k ∈ ps) := by
  rw [Bool.eq_iff_iff, hasN_iff, decide_eq_true_eq, List.mem_map]
  constructor
  · rintro ⟨i, hi, e⟩
    rw [← id_inj hF (hps i hi) hk e]; exact hi
  · intro h; exact ⟨k, h, rfl⟩
theorem idsAt_map (l : List Qu) (ps : List (Fin l.length)) : idsAt l ps = (ps.map (·.val)).map (fun i => (qa l i).id) := by unfold idsAt; rw [List.map_map]; rfl
theorem fin_lt {l : List Qu} {ps : List (Fin l.length)} : ∀ i ∈ ps.map (·.val), i < l.length := fun i hi => by
  obtain ⟨x, _, rfl⟩ := List.mem_map.1 hi
  exact x.2
theorem hasN_ids {l : List Qu} (hF : Form l) {ps : List (Fin l.length)} {k : Nat} (hk : k < l.length) : hasN (idsAt l ps) (qa l k).id = decide (⟨k, hk⟩ ∈ ps) := by
  rw [idsAt_map, hasN_at hF fin_lt hk]
  congr 1
  apply propext
  rw [List.mem_map]
  constructor
  · rintro ⟨x, hx, e⟩
    have : x = ⟨k, hk⟩ := Fin.ext e
    rw [← this]; exact hx
  · intro h; exact ⟨_, h, rfl⟩

theorem there_good {l : List Qu} (hC : chkE l = 0) {k : Nat} (hk : k < l.length) : thereE l (qa l k).id = 0 := by
  have hh : hasQ l (qa l k).id = true := hasQ_iff.2 ⟨k, hk, rfl⟩
  unfold thereE
  rw [if_neg (by rw [hC]; decide), if_neg (by rw [hh]; decide)]
theorem there_chk {l : List Qu} {id : Int} (h : thereE l id = 0) : chkE l = 0 ∧ hasQ l id = true := by
  unfold thereE at h
  split at h
  · rename_i h1; exact absurd h h1
  · rename_i h1
    split at h
    · omega
    · rename_i h2
      exact ⟨by simpa using h1, by simpa using h2⟩

theorem hasN_quiet {a : Option Addr} {len ca : Nat} {l : List Int} {w : World} (h : HoldsN w a len ca l) (hm : len ≤ 140737488355328) (x : Int) {b : Bool} (hb : hasN l x = b) (n : Nat) :
    Calls Try.prog 36 #[.slice a len ca, .int .i64 x] (w.drewN n) fun e w'' => e = .returned (.bool b) ∧ ∃ m, w'' = w.drewN m := by
  refine (hasN_any a len ca l x (w.drewN n) (h.below (below_drewN (Below.refl _ _) n)) hm).mono ?_
  rintro e w' ⟨rfl, rfl⟩
  rw [hb]
  exact ⟨rfl, n, rfl⟩

theorem idsAt_len {l : List Qu} {ps : List (Fin l.length)} : (idsAt l ps).length = ps.length := by unfold idsAt; simp
theorem chk_le {l : List Qu} (h : chkE l = 0) : l.length ≤ 64 := (chkE_ok.1 h).1
theorem childrenR_len (l : List Qu) (id : Int) : (childrenR l id).length ≤ 64 := by
  unfold childrenR
  split
  · rename_i h
    rw [idsAt_len]
    exact filter_len (chk_le (there_chk h).1)
  · simp
theorem downR_len (l : List Qu) (id : Int) : (downR l id).length ≤ 64 := by
  unfold downR
  split
  · rename_i h
    rw [idsAt_len]
    exact filter_len (chk_le (there_chk h).1)
  · simp
theorem leavesR_len (l : List Qu) : (leavesR l).length ≤ 64 := by
  unfold leavesR
  split
  · rename_i h
    rw [idsAt_len]
    exact filter_len (chk_le h)
  · simp

set_option maxRecDepth 100000 in
set_option maxHeartbeats 8000000 in
theorem walk (a : Option Addr) (len cap : Nat) (l : List Qu) (id : Int) (w : World) (h : HoldsQ w a len cap l) (hok : ∀ q ∈ l, q.ok) (hid' : I64 id) :
    Calls Try.prog 7 #[.slice a len cap, .int .i64 id] w fun e w' => e = .returned (.bool true) ∧ Below w.heap.size w w' := by
  have HH := hid h
  have HO := hid hok
  have HI := hid hid'
  have HL := hid h.1
  have hcap0 := h.2.1
  clear h hok hid'
  by_cases hE : thereE l id = 0
  · obtain ⟨hC, hX⟩ := there_chk hE
    have hG := chkE_ok.1 hC
    have hF := hG.2.1
    have hP : pl l id < l.length := of_decide_eq_true hX
    have hUR : upR l id = pids l (pl l id) := by unfold upR; rw [if_pos hE]; rfl
    have eid : (qa l (pl l id)).id = id := pl_id hP
    have hle : len ≤ 64 := by rw [← HL.out]; exact hG.1
    have hlpos : 0 < len := by rw [← HL.out]; exact hF.1
    obtain ⟨b, off, rfl, hR⟩ := HH.out.row (by have := hF.1; rw [HL.out] at this; exact this)
    have hplen : (pids l (pl l id)).length ≤ 64 := by
      have := pth_len (l := l) (pl l id)
      unfold pids; rw [List.length_map]
      have := hG.1
      omega
    have hppos : 0 < (pids l (pl l id)).length := by unfold pids; rw [pth]; simp
    have first : (pids l (pl l id))[0]?.getD 0 = id := by unfold pids; rw [List.getElem?_map, pth_head]; simp [eid]
    obtain ⟨hl0, hnx⟩ := pth_next hF _ hP
    have last : (pids l (pl l id))[(pids l (pl l id)).length - 1]?.getD 0 = 0 := by
      unfold pids
      rw [List.length_map, List.getElem?_map, hl0]
      simp [hF.root.1]
    have step : ∀ k, k + 1 < (pids l (pl l id)).length → I64 ((pids l (pl l id))[k + 1]?.getD 0) ∧ thereE l ((pids l (pl l id))[k + 1]?.getD 0) = 0 ∧ hasN (childrenR l ((pids l (pl l id))[k + 1]?.getD 0)) ((pids l (pl l id))[k]?.getD 0) = true := fun k hk => by
      unfold pids at hk ⊢
      rw [List.length_map] at hk
      obtain ⟨i, j, h1, h2, hi, hj, e⟩ := hnx k hk
      rw [List.getElem?_map, List.getElem?_map, h1, h2]
      simp only [Option.map_some, Option.getD_some]
      refine ⟨(qa_ok HO.out j).1, there_good hC hj, ?_⟩
      unfold childrenR
      rw [if_pos (there_good hC hj), hasN_ids hF hi]
      unfold kids
      simp [e]
    have all : ∀ k, k < len → I64 (qa l k).id ∧ thereE l (qa l k).id = 0 ∧ hasN (downR l (qa l k).id) id = hasN (pids l (pl l id)) (qa l k).id ∧ hasN (downR l (qa l k).id) (qa l k).id = true ∧ (hasN (leavesR l) (qa l k).id != decide (((childrenR l (qa l k).id).length : Int) = 0)) = false := fun k hk => by
      have hk' : k < l.length := by rw [HL.out]; exact hk
      refine ⟨(qa_ok HO.out k).1, there_good hC hk', ?_, ?_, ?_⟩
      · unfold downR
        rw [if_pos (there_good hC hk'), hF.pl hk']
        have e1 : hasN (idsAt l (downs l k)) id = decide ((⟨pl l id, hP⟩ : Fin l.length) ∈ downs l k) := by
          rw [← hasN_ids hF hP, eid]
        rw [e1]
        unfold pids
        rw [hasN_at hF (fun i hi => pth_lt hP hi) hk']
        unfold downs
        simp
      · unfold downR
        rw [if_pos (there_good hC hk'), hF.pl hk', hasN_ids hF hk']
        unfold downs
        simp [pth_self]
      · unfold leavesR childrenR
        rw [if_pos hC, if_pos (there_good hC hk'), hasN_ids hF hk']
        unfold leafs idsAt
        simp only [List.mem_filter, List.mem_finRange, true_and, List.length_map]
        unfold leafB
        cases hkk : kids l (qa l k).id with
        | nil => simp
        | cons x y => simp; omega
    have HS := hid step
    have HA := hid all
    have HE := hid hE
    have HUR := hid hUR
    have HCL := hid hC
    clear step all hE hUR hC hG hF hX hnx hl0 eid hR
    generalize pids l (pl l id) = path at *
    obtain ⟨pn, hpn⟩ : ∃ pn, path.length = pn := ⟨_, rfl⟩
    have HPN := hid hpn
    rw [hpn] at hplen hppos last
    have HFI := hid first
    have HLA := hid last
    clear first last
    have hpn' := hid hpn
    clear hpn
    go_enter Try.func7, Try.ntmps7
    go_wp2_with fail
    refine (awake_any w).mono ?_
    rintro e w1 ⟨rfl, b1⟩
    have H1 := hid (HH.out.below b1)
    go_wp2_with fail
    refine (up_any _ len cap l id w1 H1.out HO.out HI.out).mono ?_
    rintro e w2 ⟨v2, rfl, o2, b2⟩
    rw [HUR.out] at o2
    unfold AnsN at o2
    rw [HPN.out] at o2
    obtain ⟨a2, c2, rfl⟩ := o2.form
    rw [HE.out]
    have P2 := hid (o2.holds encN_len)
    have hB2 := b1.trans (b2.mono b1.size)
    have HB12 := hid b2
    have HB2 := hid hB2
    have hc2 := P2.out.2.1
    obtain ⟨pb, po, rfl, hrow⟩ := P2.out.rowN hppos
    have hc0 := hrow 0 hppos
    have hc1 := hrow (pn - 1) (by omega)
    rw [HFI.out] at hc0
    rw [HLA.out] at hc1
    rw [Nat.add_zero] at hc0
    have HROW := hid hrow
    have t1 : ((pn : Int) == 0) = false := by simp; omega
    have t2 : (id != id) = false := by simp
    have pa : (0 : Int) ≤ (pn : Int) - 1 := by omega
    have pb' : (pn : Int) - 1 < (pn : Int) := by omega
    have pc : ((pn : Int) - 1).toNat = pn - 1 := by omega
    clear o2 b2 hrow
    go_wp2_with fail
    go_loopw [7] (fun i wr => ∃ k : Nat, k + 1 ≤ pn ∧ i = .int .i64 ((k : Int) + 1) ∧ Below w2.heap.size w2 wr) (fun i _ => pn - (intOf i).toNat)
    case atStart => exact ⟨0, by omega, by simp, Below.refl _ _⟩
    case round =>
      obtain ⟨k, hk, rfl, hB⟩ := hrel
      clear hc0 hc1 pa pb' pc
      by_cases hlt : k + 1 < pn
      · obtain ⟨s1, s2, s3⟩ := HS.out k (by rw [HPN.out]; exact hlt)
        have d0 := keepb hB (HROW.out k (by omega))
        have d1 := keepb hB (HROW.out (k + 1) hlt)
        have S1 := hid s1
        have S2 := hid s2
        have S3 := hid s3
        clear s1 s2 s3
        generalize path[k + 1]?.getD 0 = y at *
        generalize path[k]?.getD 0 = x at *
        have d2 := d1
        rw [← Nat.add_assoc] at d2
        have ka : (0 : Int) ≤ (k : Int) + 1 := by omega
        have kb : (k : Int) + 1 < (pn : Int) := by omega
        have kc : ((k : Int) + 1).toNat = k + 1 := by omega
        have ke : (k : Int) + 1 - 1 = (k : Int) := by omega
        go_wp2_with fail
        refine (children_any _ len cap l y wr (H1.out.below (Below.trans HB12.out (hB.mono HB12.out.size))) HO.out S1.out).mono ?_
        rintro e w3 ⟨v3, rfl, o3, b3⟩
        rw [S2.out]
        unfold AnsN at o3
        obtain ⟨a3, c3, rfl⟩ := o3.form
        have P3 := hid (o3.holds encN_len)
        have L3 := hid (childrenR_len l y)
        have hB3 := hB.trans (b3.mono hB.size)
        have e0 := keepb b3 d0
        have e1 := keepb b3 d1
        clear o3 b3 d0 d1 d2
        go_wp2_with fail
        refine (hasN_any a3 _ c3 (childrenR l y) x w3 P3.out (by have := L3.out; omega)).mono ?_
        rintro e w4 ⟨rfl, rfl⟩
        rw [S3.out]
        go_wp2
        go_roundw
        case rel => exact ⟨k + 1, by omega, by go_num, hB3⟩
        case measure => simp [intOf]; omega
      · go_wp2_with fail
        refine (leaves_any _ len cap l wr (H1.out.below (Below.trans HB12.out (hB.mono HB12.out.size))) HO.out).mono ?_
        rintro e w3 ⟨v3, rfl, o3, b3⟩
        rw [HCL.out]
        unfold AnsN at o3
        obtain ⟨a3, c3, rfl⟩ := o3.form
        have P3 := hid (o3.holds encN_len)
        have L3 := hid (leavesR_len l)
        have hB3 := hB.trans (b3.mono hB.size)
        have PP3 := hid (P2.out.below hB3)
        have H3 := hid (H1.out.below (Below.trans HB12.out (hB3.mono HB12.out.size)))
        clear o3 b3
        have R3 : Hid (RowQ w3 b off l) := by
          obtain ⟨b', off', e, r⟩ := H3.out.row hlpos
          cases e
          exact r
        go_wp2_with fail
        go_loopw [86] (fun i wr2 => ∃ k : Nat, k ≤ len ∧ i = .int .i64 k ∧ Below w3.heap.size w3 wr2) (fun i _ => len - (intOf i).toNat)
        case atStart => exact ⟨0, by omega, rfl, Below.refl _ _⟩
        case round =>
          obtain ⟨k, hk, rfl, hB4⟩ := hrel
          by_cases hlt2 : k < len
          · obtain ⟨s1, s2, s3, s4, s5⟩ := HA.out k hlt2
            obtain ⟨c0, c1, c2', c3', c4, c5, c6⟩ := (R3.out.below hB4).2 k (by rw [HL.out]; exact hlt2)
            have S1 := hid s1
            have S2 := hid s2
            have S3 := hid s3
            have S4 := hid s4
            have S5 := hid s5
            clear s1 s2 s3 s4 s5
            have LD := hid (downR_len l (qa l k).id)
            have LC := hid (childrenR_len l (qa l k).id)
            generalize qa l k = q at *
            obtain ⟨q1, q2, q3, q4, q5, q6, q7⟩ := q
            simp only at *
            go_wp2_with fail
            refine (down_any _ len cap l q1 _ (H3.out.below (hB4.alloc hB4.size _)) HO.out S1.out).mono ?_
            rintro e w5 ⟨v5, rfl, o5, b5⟩
            rw [S2.out]
            unfold AnsN at o5
            obtain ⟨a5, c5', rfl⟩ := o5.form
            have P5 := hid (o5.holds encN_len)
            have hB5 : Below w3.heap.size w3 w5 := (hB4.alloc hB4.size (.cells #[.int .i64 q1, .int .i64 q2, .int .i64 q3, .int .i64 q4, .int .i64 q5, .int .i64 q6, .int .i64 q7] 26)).trans (b5.mono (by have := hB4.size; simp; omega))
            have g0 := keepc b5 (a := ⟨wr.heap.size, 0, none⟩) (v := .int .i64 q1) (by simp [go_sem])
            clear o5 b5 c0 c1 c2' c3' c4 c5 c6
            go_wp2_with fail
            refine (children_any _ len cap l q1 w5 (H3.out.below hB5) HO.out S1.out).mono ?_
            rintro e w6 ⟨v6, rfl, o6, b6⟩
            rw [S2.out]
            unfold AnsN at o6
            obtain ⟨a6, c6', rfl⟩ := o6.form
            have hB7 : Below w3.heap.size w3 w6 := hB5.trans (b6.mono hB5.size)
            have P6 := hid (P5.out.below b6)
            have m0 := keepb b6 g0
            clear o6 b6 g0 P5
            generalize hcl : (childrenR l q1).length = cl at *
            have HCL2 := hid hcl
            clear hcl
            cases hb1 : hasN path q1
            · have Q1 := hid (hasN_quiet P6.out (by have := LD.out; omega) id (S3.out.trans hb1))
              have Q2 := hid (hasN_quiet (PP3.out.below hB7) (by omega) q1 hb1)
              have Q3 := hid (hasN_quiet P6.out (by have := LD.out; omega) q1 S4.out)
              cases hb4 : hasN (leavesR l) q1
              · have Q4 := hid (hasN_quiet (P3.out.below hB7) (by have := L3.out; omega) q1 hb4)
                have tc : ((cl : Int) == 0) = false := by have := S5.out; rw [hb4] at this; simpa using this
                clear hb1 hb4
                go_wp2_with fail
                go_quiet ((go_at_call 36; first | (with_reducible exact Q1.out _) | (with_reducible exact Q2.out _) | (with_reducible exact Q3.out _) | (with_reducible exact Q4.out _)))
                go_wp2
                go_roundw
                case rel => exact ⟨k + 1, by omega, by go_num, below_drewN hB7 _⟩
                case measure => simp [intOf]; omega
              · have Q4 := hid (hasN_quiet (P3.out.below hB7) (by have := L3.out; omega) q1 hb4)
                have tc : ((cl : Int) == 0) = true := by have := S5.out; rw [hb4] at this; simpa using this
                clear hb1 hb4
                go_wp2_with fail
                go_quiet ((go_at_call 36; first | (with_reducible exact Q1.out _) | (with_reducible exact Q2.out _) | (with_reducible exact Q3.out _) | (with_reducible exact Q4.out _)))
                go_wp2
                go_roundw
                case rel => exact ⟨k + 1, by omega, by go_num, below_drewN hB7 _⟩
                case measure => simp [intOf]; omega
            · have Q1 := hid (hasN_quiet P6.out (by have := LD.out; omega) id (S3.out.trans hb1))
              have Q2 := hid (hasN_quiet (PP3.out.below hB7) (by omega) q1 hb1)
              have Q3 := hid (hasN_quiet P6.out (by have := LD.out; omega) q1 S4.out)
              cases hb4 : hasN (leavesR l) q1
              · have Q4 := hid (hasN_quiet (P3.out.below hB7) (by have := L3.out; omega) q1 hb4)
                have tc : ((cl : Int) == 0) = false := by have := S5.out; rw [hb4] at this; simpa using this
                clear hb1 hb4
                go_wp2_with fail
                go_quiet ((go_at_call 36; first | (with_reducible exact Q1.out _) | (with_reducible exact Q2.out _) | (with_reducible exact Q3.out _) | (with_reducible exact Q4.out _)))
                go_wp2
                go_roundw
                case rel => exact ⟨k + 1, by omega, by go_num, below_drewN hB7 _⟩
                case measure => simp [intOf]; omega
              · have Q4 := hid (hasN_quiet (P3.out.below hB7) (by have := L3.out; omega) q1 hb4)
                have tc : ((cl : Int) == 0) = true := by have := S5.out; rw [hb4] at this; simpa using this
                clear hb1 hb4
                go_wp2_with fail
                go_quiet ((go_at_call 36; first | (with_reducible exact Q1.out _) | (with_reducible exact Q2.out _) | (with_reducible exact Q3.out _) | (with_reducible exact Q4.out _)))
                go_wp2
                go_roundw
                case rel => exact ⟨k + 1, by omega, by go_num, below_drewN hB7 _⟩
                case measure => simp [intOf]; omega
          · have hB9 := (HB2.out.trans (hB3.mono HB2.out.size)).trans (hB4.mono (Nat.le_trans HB2.out.size hB3.size))
            go_wp2
            go_ret
            exact ⟨rfl, hB9⟩
  · have hUR : upR l id = [] := by unfold upR; rw [if_neg hE]
    have t : (thereE l id != 0) = true := by simpa using hE
    have HUR := hid hUR
    clear hE hUR
    go_enter Try.func7, Try.ntmps7
    go_wp2_with fail
    refine (awake_any w).mono ?_
    rintro e w1 ⟨rfl, b1⟩
    go_wp2_with fail
    refine (up_any _ len cap l id w1 (HH.out.below b1) HO.out HI.out).mono ?_
    rintro e w2 ⟨v2, rfl, o2, b2⟩
    rw [HUR.out] at o2
    unfold AnsN at o2
    obtain ⟨a2, c2, rfl⟩ := o2.form
    have hB2 := b1.trans (b2.mono b1.size)
    clear o2 b2
    generalize thereE l id = E at *
    go_wp2
    go_ret
    exact ⟨rfl, hB2⟩

theorem own : ownKnob Try.prog.godebug = none := by kernel_rfl
theorem laidOut : laidOutB Try.prog = true := by kernel_rfl

set_option maxRecDepth 100000 in
theorem lifted (os : Os) (started : os.Started) (H : Type) (enc : TypeId × Value → H) :
    ReturnsInHanded {} Try.checked os 7 .any (Rows.queueTreesSpec.pre6 enc Try.prog Try.f7 Rows.queueTreesRow.domain false) (Rows.queueTreesSpec.post enc Try.prog Try.f7 false true false false) := by
  refine returnsInHanded_of_change (C := Try.checked) own started (by kernel_rfl) Try.func7
    (ChangeSpec.witness6 (enc := enc) (C := Try.checked) false ⟨#[], #[.slice none 0 0, .int .i64 0], []⟩ 8 (by kernel_rfl) (by kernel_rfl) (by kernel_rfl) (by kernel_rfl)) ?_
  intro W base args ds gs before hval0 hW hcnd _
  have hval : ∀ (j : Nat) t v, Try.f7.params[j]? = some t → args[j]? = some v → Value.okWide Try.prog W .any base t v := hval0
  have hW' := hW
  obtain ⟨p, q, hA0, hV, rfl, hfz, hnd⟩ := hW
  have hA : DataW.TrodAll enc Try.prog W 0 (fun _ => true) true Try.f7.params.toList args.toList ds p := hA0
  rw [Try.params7] at hA hval
  obtain ⟨v0, vs0, d0, ds0, p0, q0, hargs, rfl, rfl, h0, r0⟩ := trodAll_cons hA
  obtain ⟨v1, vs1, d1, ds1, p1, q1, rfl, rfl, rfl, h1, r1⟩ := trodAll_cons r0
  obtain ⟨rfl, rfl, rfl⟩ := trodAll_nil r1
  obtain rfl : args = #[v0, v1] := by cases args; simp_all
  obtain ⟨rfl, rfl⟩ := trodVars_none hV
  have lt0 : ∀ x ∈ p0, x.block < W.heap.size := by obtain ⟨m, hm⟩ := h0; exact DataW.trod_lt m _ _ _ hm
  have lt1 : ∀ x ∈ p1, x.block < W.heap.size := by obtain ⟨m, hm⟩ := h1; exact DataW.trod_lt m _ _ _ hm
  obtain ⟨a0, len0, cap0, rfl⟩ := okWide_slice Try.underlying22 (hval 0 22 v0 rfl rfl)
  obtain ⟨z0, w0, k0, dr0⟩ := val_rowE (k := 7) (en := Qu.cs) (ok := Qu.ok) Try.underlying22 (by kernel_rfl) Qu.cs_len (by decide) (fun _ _ _ h => trod_queue h) h0
  obtain ⟨a1, rfl, w1⟩ := val_i64 Try.underlying3 (hval 1 3 v1 rfl rfl) h1
  clear hA0 hval0
  refine (walk a0 len0 cap0 z0 a1 W w0 k0 w1).mono fun e W' ⟨he, bel⟩ => ?_
  subst he
  exact ⟨_, rfl, _, _, _, [], _, [], hW', trodAll_mk1 (shut_bool Try.underlying4 _), (trodAll_cons_mk (Below.trod laidOut (by kernel_rfl) (of_decide_eq_true (by kernel_rfl)) h0 bel lt0) (trodAll_cons_mk (Below.trod laidOut (by kernel_rfl) (of_decide_eq_true (by kernel_rfl)) h1 bel lt1) trodAll_mk0)), rfl, bel.frame _, fun h => by cases h⟩

theorem over : Rows.queueTreesRow.holds Try.pinned (OpenSpec.ofChange Rows.queueTreesSpec) :=
  OpenClaim.holds_of_wide 7 Try.f7 rfl rfl rfl rfl rfl rfl rfl ⟨rfl, rfl, rfl, rfl, rfl⟩ rfl rfl rfl rfl rfl (by kernel_rfl) Try.func7 (by kernel_rfl)
    (of_decide_eq_true (by kernel_rfl)) (by unfold Func.isWrapper; first | (rw [if_pos (by decide +kernel)]; kernel_rfl) | (rw [if_neg (by decide +kernel)]; exact ⟨rfl, rfl⟩))
    (fun os started H enc _ => lifted os started H enc)

theorem proved : Rows.QueueTreesSaid := over
#print axioms proved
end Go.Proofs.Ytcfaciicljjpoaa.queueTrees
