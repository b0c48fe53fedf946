/-
  law09: runs of both groups; any call.
-/
import Derived.Test.YtdenhpclopjjgaaGU
namespace Go.Proofs.Ytdenhpclopjjgaa
open Go.RowKit Go.Deep Go.Maps
set_option linter.unusedVariables false
set_option linter.unusedSimpArgs false

section
variable {gb r len cap : Nat} {a : Option Addr} {l : List Cl} {w : World}

set_option maxRecDepth 100000 in
set_option maxHeartbeats 16000000 in
theorem playN (kd id tk rm nn : Int) (hg : Grp w gb r l) (hl : HoldsC w a len cap l) (hG : Gr l) (hs : Sep w a gb r) (h0 : kd ≠ 0) (h1 : kd ≠ 1) (h2 : kd ≠ 2) (h3 : kd ≠ 3) :
    Calls Try.prog 11 #[gp gb, .slice a len cap, .agg #[.int .i64 kd, .int .i64 id, .int .i64 tk, .int .i64 rm, .int .i64 nn]] w fun e w' => ∃ v, e = .returned (.tuple #[v, .bool true]) ∧ Both w gb r (runM l nn) v w' := by
  have q0 : (kd == 0) = false := by simpa using h0
  have q1 : (kd == 1) = false := by simpa using h1
  have q2 : (kd == 2) = false := by simpa using h2
  have q3 : (kd == 3) = false := by simpa using h3
  have B1 : Hid (Below w.heap.size w (w.alloc (boxO ⟨kd, id, tk, rm, nn⟩))) := (Below.refl _ _).alloc (Nat.le_refl _) _
  have H1 := hid (hl.below B1.out)
  have G1 := hid (hg.below B1.out)
  have HGR := hid hG
  have HG := hid hg
  have HS := hid hs
  have HLN := hid hl.1
  have D4 : Hid ((w.alloc (boxO ⟨kd, id, tk, rm, nn⟩)).cell? ⟨w.heap.size, 4, none⟩ = some (.int .i64 nn)) := by simp [Hid, go_sem]
  have hltg := hg.lt
  have RN := hid (run_any gb r l nn _ G1.out HGR.out)
  clear hg hl hG hs h0 h1 h2 h3
  by_cases c1 : nn < 0 ∨ 100000 < nn
  · obtain ⟨E1, E2, E3⟩ := runE_arg (l := l) c1
    rw [E1, E2, E3] at RN
    rw [E3]
    have hr : decide (nn < 0) = true ∨ (decide (nn < 0) = false ∧ decide (100000 < nn) = true) := by simp; omega
    clear E1 E2 E3 c1
    rcases hr with t1 | ⟨t1, t2⟩
    all_goals
      go_enter Try.func11, Try.ntmps11
      have d4 := D4.out
      go_wp2_with fail
      refine RN.out.mono ?_
      rintro e w2 ⟨v, rfl, o2, g2, t2⟩
      obtain ⟨a2, c2, rfl⟩ := o2.form
      have BO : Hid (Both w gb r l (.slice a len cap) w2) := both_grp HG.out HS.out B1.out g2 t2 (.inl rfl) (Reads.self (t2.holdsS H1.out (fun x o e => by have := HS.out x o e; omega)) (Below.refl _ _))
      have d4 := t2.cell D4.out (by omega) (by omega)
      clear g2 t2 o2
      simp only [List.length_nil]
      go_wp2
      go_ret2
      exact ⟨_, rfl, BO.out⟩
  · have t1 : decide (nn < 0) = false := by simp; omega
    have t2 : decide (100000 < nn) = false := by simp; omega
    by_cases c2 : 0 < nn ∧ l.length = 0
    · obtain ⟨E1, E2, E3⟩ := runE_none (l := l) c2.1 (by omega) c2.2
      rw [E1, E2, E3] at RN
      rw [E3]
      have t3 : decide (0 < nn) = true := by simp; omega
      have t0 : ((len : Int) == 0) = true := by have := HLN.out; simp; omega
      clear E1 E2 E3 c1 c2
      go_enter Try.func11, Try.ntmps11
      have d4 := D4.out
      go_wp2_with fail
      refine RN.out.mono ?_
      rintro e w2 ⟨v, rfl, o2, g2, t2⟩
      obtain ⟨a2, c2, rfl⟩ := o2.form
      have BO : Hid (Both w gb r l (.slice a len cap) w2) := both_grp HG.out HS.out B1.out g2 t2 (.inl rfl) (Reads.self (t2.holdsS H1.out (fun x o e => by have := HS.out x o e; omega)) (Below.refl _ _))
      have d4 := t2.cell D4.out (by omega) (by omega)
      clear g2 t2 o2
      simp only [List.length_nil]
      go_wp2
      go_ret2
      exact ⟨_, rfl, BO.out⟩
    · obtain ⟨N, rfl⟩ : ∃ N : Nat, nn = N := ⟨nn.toNat, by omega⟩
      have hN : N ≤ 100000 := by omega
      have hp : 0 < N → 0 < l.length := fun h => by omega
      obtain ⟨E1, E2, E3⟩ := runE_ok (l := l) (n := N) hN hp
      rw [E1, E2, E3, pids_len] at RN
      rw [E3]
      have t0 : 0 < N → ((len : Int) == 0) = false := fun h => by
        have := hp h
        have := HLN.out
        simp; omega
      have tN : ((N : Int) != (N : Int)) = false := by simp
      have PZ : Hid (∀ k, k < N → (pids l N)[k]?.getD 0 = pid (pks l k)) := by
        intro k hk
        unfold pids
        rw [List.getElem?_map, List.getElem?_range hk]; rfl
      clear E1 E2 E3 c1 c2
      have T0 := hid t0
      have HP := hid hp
      clear t0 hp
      rcases Nat.eq_zero_or_pos N with hz | hz
      · subst hz
        go_enter Try.func11, Try.ntmps11
        have d4 := D4.out
        go_wp2_with fail
        refine RN.out.mono ?_
        rintro e w2 ⟨v, rfl, o2, g2, t2⟩
        obtain ⟨a2, c2, rfl⟩ := o2.form
        have BO : Hid (Both w gb r l (.slice a len cap) w2) := both_grp HG.out HS.out B1.out g2 t2 (.inl rfl) (Reads.self (t2.holdsS H1.out (fun x o e => by have := HS.out x o e; omega)) (Below.refl _ _))
        have d4 := t2.cell D4.out (by omega) (by omega)
        clear g2 t2 o2
        go_wp2_with fail
        refine wp_loop_rounds 1 ?_
        rw [rounds_succ]
        go_wp2
        go_ret2
        exact ⟨_, rfl, BO.out⟩
      · have t3 : decide ((0 : Int) < (N : Int)) = true := by simp; omega
        have t0 := T0.out hz
        have lp := HP.out hz
        go_enter Try.func11, Try.ntmps11
        have d4 := D4.out
        go_wp2_with fail
        refine RN.out.mono ?_
        rintro e w2 ⟨v, rfl, o2, g2, t2⟩
        obtain ⟨a2, c2, rfl⟩ := o2.form
        have I2 := hid (o2.holds encN_len)
        have G2 := hid g2
        have T2 := hid t2
        have H2 := hid (t2.holdsS H1.out (fun x o e => by have := HS.out x o e; omega))
        have d4 := t2.cell D4.out (by omega) (by omega)
        have hs2 := t2.size
        have hs1 := B1.out.size
        clear g2 t2 o2
        go_wp2_with fail
        go_loopw [1, 184] (fun u v wr => ∃ (k : Nat) (ak : Option Addr) (ck : Nat), k ≤ N ∧ u = .slice ak len ck ∧ v = .int .i64 (k : Int) ∧ Hid (HoldsC wr ak len ck (pks l k)) ∧ Hid (∀ x o, ak = some ⟨x, o, none⟩ → (w2.heap.size ≤ x ∧ x < wr.heap.size) ∨ ak = a) ∧ Hid (Below w2.heap.size w2 wr)) (fun _ v _ => N - (intOf v).toNat)
        case atStart => exact ⟨0, a, cap, by omega, rfl, rfl, H2.out, fun _ _ _ => .inr rfl, Below.refl _ _⟩
        case round =>
          rename World => wo
          obtain ⟨k, ak, ck, hk, rfl, rfl, hH, hS, hB⟩ := hrel
          by_cases hlt : k < N
          · obtain ⟨zb, zo, rfl, RZ⟩ := I2.out.rowN (by omega)
            have c0 := keepc hB.out (RZ k hlt)
            rw [PZ.out k hlt] at c0
            clear RZ
            have pl : ¬ (pks l k).length = 0 := by rw [pks_len]; omega
            have RP := hid (rpick_any ak len ck (pks l k) wo hH.out (HGR.out.pks lp k))
            have x1 : pickE (pks l k) = 0 := by unfold pickE; rw [if_neg pl]
            have x2 : pickV (pks l k) = pid (pks l k) := by unfold pickV; rw [if_neg pl]
            have x3 : pickM (pks l k) = pks l (k + 1) := by unfold pickM; rw [if_neg pl]; rfl
            rw [x1, x2, x3] at RP
            clear x1 x2 x3 pl
            have ka : (0 : Int) ≤ (k : Int) := by omega
            have kb : (k : Int) < (N : Int) := by omega
            generalize pid (pks l k) = pv at *
            have tn : (pv != pv) = false := by simp
            go_wp2_with fail
            refine RP.out.mono ?_
            rintro e wx ⟨v, rfl, a3, c3, rfl, h3, b3, n3⟩
            have L3 : Hid ((pks l (k + 1)).length = len) := by unfold Hid; rw [pks_len, HLN.out]
            rw [L3.out] at h3 ⊢
            have H3 := hid h3
            have B3 := hid (hB.out.trans (b3.mono hB.out.size))
            have S3 : Hid (∀ x o, a3 = some ⟨x, o, none⟩ → (w2.heap.size ≤ x ∧ x < wx.heap.size) ∨ a3 = a) := by
              intro x o e
              have s1 := hB.out.size
              have s2 := b3.size
              rcases n3 x o e with h | h
              · exact .inl (by omega)
              · rcases hS.out x o (by rw [← h]; exact e) with h' | h'
                · exact .inl (by omega)
                · exact .inr (by rw [h]; exact h')
            clear h3 b3 n3
            go_wp2
            go_roundw
            case rel => exact ⟨k + 1, a3, c3, by omega, rfl, by go_num, H3, S3, B3⟩
            case measure => simp [intOf]; omega
          · have kn : k = N := by omega
            subst kn
            have L3 : (pks l k).length = len := by rw [pks_len, HLN.out]
            have BO : Hid (Both w gb r (pks l k) (.slice ak len ck) wo) := both_grp HG.out HS.out B1.out G2.out T2.out (.inl rfl) ⟨ak, ck, by rw [L3], by rw [L3]; exact hH.out, hB.out, hS.out⟩
            go_wp2
            go_ret2
            exact ⟨_, rfl, BO.out⟩

theorem play_any (o : Oc) (hg : Grp w gb r l) (hl : HoldsC w a len cap l) (hG : Gr l) (hs : Sep w a gb r) (ho : o.ok) :
    Calls Try.prog 11 #[gp gb, .slice a len cap, .agg #[.int .i64 o.kd, .int .i64 o.id, .int .i64 o.tk, .int .i64 o.rm, .int .i64 o.nn]] w fun e w' => ∃ v, e = .returned (.tuple #[v, .bool true]) ∧ Both w gb r (opS l o) v w' := by
  obtain ⟨kd, id, tk, rm, nn⟩ := o
  unfold opS
  simp only
  by_cases h0 : kd = 0
  · subst h0
    rw [if_pos rfl]
    exact play0 id tk rm nn hg hl hG hs ho.2.1
  · by_cases h1 : kd = 1
    · subst h1
      rw [if_neg (by decide), if_pos rfl]
      exact play1 id tk rm nn hg hl hG hs ho.2.1
    · by_cases h2 : kd = 2
      · subst h2
        rw [if_neg (by decide), if_neg (by decide), if_pos rfl]
        exact play2 id tk rm nn hg hl hG hs ho.2.1
      · by_cases h3 : kd = 3
        · subst h3
          rw [if_neg (by decide), if_neg (by decide), if_neg (by decide), if_pos rfl]
          exact play3 id tk rm nn hg hl hG hs ho.2.1
        · rw [if_neg h0, if_neg h1, if_neg h2, if_neg h3]
          exact playN kd id tk rm nn hg hl hG hs h0 h1 h2 h3
end

end Go.Proofs.Ytdenhpclopjjgaa
