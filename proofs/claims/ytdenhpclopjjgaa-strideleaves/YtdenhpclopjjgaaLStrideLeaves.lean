/- StrideLeaves: for every list of calls and every number the law answers true, and the list reads as it did. No further conditions. -/
import Derived.Test.YtdenhpclopjjgaaGP
namespace Go.Proofs.Ytdenhpclopjjgaa.strideLeaves
open Go.ChangeShapes Go.WideShapes Go.ChangeAt Go.RowKit Go.Deep Go.Maps
set_option linter.unusedVariables false
set_option linter.unusedSimpArgs false

set_option maxRecDepth 100000 in
theorem neqC_same (a b c : Int) (w : World) : Sem.run Try.prog (binOp BinOp.neq 41 (.agg #[.int .i64 a, .int .i64 b, .int .i64 c]) (.agg #[.int .i64 a, .int .i64 b, .int .i64 c])) w = .ok (.bool false) w := by
  have hS : Try.prog.underlying 41 = some (.struct (Try.prog.fieldsOf 41)) := by kernel_rfl
  have hp : Try.prog.stoodInHeld 41 = false := by kernel_rfl
  have u3 := Try.underlying3
  have a3 := Try.isAgg3
  have z3 := Try.sizeOf3
  have u2 := Try.underlying2
  have a2 := Try.isAgg2
  have z2 := Try.sizeOf2
  rw [run_neq_struct, show (10000 : Nat) = 9999 + 1 from rfl, run_equalIn_agg w 9999 41 _ _ hS hp]
  simp only [Program.fieldsOf, Try.underlying41]
  go_simp
theorem low_del {l : List Cl} (h : Gr l) {i j : Nat} (hi : i < l.length) (hj : j < l.length) (hne : j ≠ i) (h0 : (ca l j).ps = 0) : low (delC l i) = 0 := by
  have hz : ∀ k, k < (delC l i).length → 0 ≤ (ca (delC l i) k).ps := fun k hk => (h.del_ps hi k hk).1
  rcases Nat.lt_or_ge j i with e | e
  · refine low_eq (m := 0) hz (j := j) (by rw [delC_len hi]; omega) ?_
    rw [ca_del hi (by omega), if_pos e]; exact h0
  · refine low_eq (m := 0) hz (j := j - 1) (by rw [delC_len hi]; omega) ?_
    rw [ca_del hi (by omega), if_neg (by omega), show j - 1 + 1 = j by omega]; exact h0
/-- Who has left isn't there, and may join again. -/
theorem again_ok {l : List Cl} (h : Gr l) {id : Int} (hh : hs l id = true) : joinE (leaveM l id) id (ca l (sk l id)).tk (ca l (sk l id)).ps = 0 := by
  obtain ⟨hk, e⟩ := hs_yes hh
  obtain ⟨_, r1, r2, r3, r4⟩ := h.rng _ hk
  have hm : leaveM l id = lev (delC l (sk l id)) := by unfold leaveM; rw [if_pos hh]
  have hg := h.leave id
  have hl : (leaveM l id).length = l.length - 1 := by rw [hm, lev_len, delC_len hk]
  have hlen := h.len
  have hn : hs (leaveM l id) id = false := by
    cases hc : hs (leaveM l id) id
    · rfl
    · obtain ⟨j, hj, ej⟩ := (hs_iff hg.ids).1 hc
      rw [hm, lev_len] at hj
      rw [hm, ca_lev hj] at ej
      rw [delC_len hk] at hj
      rw [ca_del hk hj] at ej
      simp only at ej
      split at ej
      · have := h.ids j (sk l id) (by omega) hk; omega
      · have := h.ids (sk l id) (j + 1) (by omega) (by omega); omega
  exact (joinE_ok hn (by unfold tkOk; simp [r1, r2]) r3 r4 (by omega)).1
theorem again_len {l : List Cl} (h : Gr l) {id : Int} (hh : hs l id = true) : (joinM (leaveM l id) id (ca l (sk l id)).tk (ca l (sk l id)).ps).length = l.length := by
  have hz := again_ok h hh
  obtain ⟨hk, e⟩ := hs_yes hh
  unfold joinM
  rw [if_pos hz, lev_len, insC_len (sk_le _ _)]
  unfold leaveM
  rw [if_pos hh, lev_len, delC_len hk]
  omega
theorem again_same {l : List Cl} (h : Gr l) {id : Int} (hh : hs l id = true) {j : Nat} (hj : j < l.length) (hne : (ca l j).id ≠ id) (h0 : (ca l j).ps = 0) : joinM (leaveM l id) id (ca l (sk l id)).tk (ca l (sk l id)).ps = l := by
  have hz := again_ok h hh
  obtain ⟨hk, e⟩ := hs_yes hh
  have hjk : j ≠ sk l id := fun ee => hne (by rw [ee]; exact e)
  have hm : leaveM l id = delC l (sk l id) := by unfold leaveM; rw [if_pos hh]; exact lev_zero (low_del h hk hj hjk h0)
  unfold joinM
  rw [if_pos hz, hm]
  have hs' : sk (delC l (sk l id)) id = sk l id := by
    refine sk_eq (by rw [delC_len hk]; omega) (fun k hk' => ?_) (fun hk' => ?_)
    · rw [ca_del hk (by omega), if_pos hk']; exact sk_before hk'
    · rw [delC_len hk] at hk'
      rw [ca_del hk hk', if_neg (by omega)]
      have := h.ids (sk l id) (sk l id + 1) (by omega) (by omega)
      omega
  rw [hs']
  have hi : insC (delC l (sk l id)) (sk l id) ⟨id, (ca l (sk l id)).tk, (ca l (sk l id)).ps⟩ = l := by
    have hdl : (delC l (sk l id)).length = l.length - 1 := delC_len hk
    refine ca_ext (by rw [insC_len (by omega)]; omega) (fun k hk' => ?_)
    rw [insC_len (by omega)] at hk'
    rw [ca_ins (by omega) hk']
    split
    · rename_i h1; rw [ca_del hk (by omega), if_pos h1]
    · split
      · rename_i h1 h2; subst h2
        have : ca l (sk l id) = ⟨(ca l (sk l id)).id, (ca l (sk l id)).tk, (ca l (sk l id)).ps⟩ := rfl
        rw [e] at this
        exact this.symm
      · rw [ca_del hk (by omega), if_neg (by omega), show k - 1 + 1 = k by omega]
  rw [hi]
  exact lev_zero (h.low (by omega))

/-- What the first loop has found behind k rounds. -/
def atV (l : List Cl) (id : Int) (k : Nat) : Int := if sk l id < k ∧ hs l id = true then (sk l id : Int) else -1
def othV (l : List Cl) (id : Int) (k : Nat) : Bool := (List.range k).any (fun j => decide ((ca l j).id ≠ id) && decide ((ca l j).ps = 0))
theorem othV_succ (l : List Cl) (id : Int) (k : Nat) : othV l id (k + 1) = (othV l id k || (decide ((ca l k).id ≠ id) && decide ((ca l k).ps = 0))) := by
  unfold othV; rw [List.range_succ, List.any_append]; simp
theorem atV_yes {l : List Cl} (h : Gr l) {id : Int} {k : Nat} (hk : k < l.length) (e : (ca l k).id = id) : atV l id (k + 1) = k := by
  have h1 : sk l id = k := by rw [← e]; exact sk_of h.ids hk
  have h2 : hs l id = true := (hs_iff h.ids).2 ⟨k, hk, e⟩
  unfold atV
  rw [h1, if_pos ⟨by omega, h2⟩]
theorem atV_no {l : List Cl} {id : Int} {k : Nat} (e : (ca l k).id ≠ id) : atV l id (k + 1) = atV l id k := by
  unfold atV
  by_cases h : sk l id < k ∧ hs l id = true
  · rw [if_pos ⟨by omega, h.2⟩, if_pos h]
  · rw [if_neg h, if_neg]
    rintro ⟨h1, h2⟩
    have hk : sk l id = k := by
      rcases Nat.lt_or_ge (sk l id) k with h3 | h3
      · exact absurd ⟨h3, h2⟩ h
      · omega
    have := (hs_yes h2).2
    rw [hk] at this
    exact e this

set_option maxRecDepth 100000 in
set_option maxHeartbeats 8000000 in
theorem walk (a0 : Option Addr) (len0 cap0 : Nat) (z0 : List Oc) (a1 : Int) (w : World) (w0 : HoldsO w a0 len0 cap0 z0) (k0 : ∀ o ∈ z0, o.ok) (w1 : I64 a1) :
    Calls Try.prog 7 #[.slice a0 len0 cap0, .int .i64 a1] w fun e w' => e = .returned (.bool true) ∧ Below w.heap.size w w' := by
  have HH := hid w0
  have KK := hid k0
  have GM := Gr.made k0
  have HI := hid w1
  clear w0 k0 w1
  go_enter Try.func7, Try.ntmps7
  go_wp2_with fail
  refine (awake9_any w).mono ?_
  rintro e wd1 ⟨rfl, b1⟩
  have B1 := hid b1
  clear b1
  go_wp2_with fail
  refine (made_any a0 len0 cap0 z0 wd1 (HH.out.below B1.out) KK.out).mono ?_
  rintro e wd2 ⟨gb, r, rfl, g2, hg2, hr2, b2⟩
  have G2 := hid g2
  have B2 := hid (B1.out.trans (b2.mono B1.out.size))
  have hs1 := B1.out.size
  clear b2 g2
  have HL := GM.len
  generalize hml : madeM z0 = l at *
  clear hml HH KK
  have GR := hid GM
  clear GM
  obtain ⟨n, hn⟩ : ∃ n, l.length = n := ⟨_, rfl⟩
  have HN := hid hn
  go_wp2_with fail
  refine (list_any gb r l wd2 G2.out HL).mono ?_
  rintro e wd3 ⟨v3, rfl, o3, b3⟩
  rw [hn] at o3
  obtain ⟨a3, c3, rfl⟩ := o3.form
  have O3 := hid o3
  have B3 := hid (B2.out.trans (b3.mono B2.out.size))
  have G3 := hid (G2.out.below b3)
  have hs2 := b3.size
  have hs02 := B2.out.size
  obtain ⟨hgl, hrl⟩ := G2.out.lt
  clear b3 o3
  have K3 := hid (O3.out.holds Cl.cs_len)
  go_wp2_with fail
  go_loopw [7, 8, 23] (fun u v x wr => ∃ k : Nat, k ≤ n ∧ u = .int .i64 (atV l a1 k) ∧ v = .bool (othV l a1 k) ∧ x = .int .i64 (k : Int) ∧ Hid (Below wd3.heap.size wd3 wr)) (fun _ _ x _ => n - (intOf x).toNat)
  case atStart => exact ⟨0, by omega, rfl, rfl, rfl, Below.refl _ _⟩
  case round =>
    obtain ⟨k, hk, rfl, rfl, rfl, hB⟩ := hrel
    by_cases hlt : k < n
    · have hlt' : k < l.length := by rw [HN.out]; exact hlt
      obtain ⟨ba, oa', rfl, _, RA⟩ := K3.out.rowC (by omega)
      obtain ⟨x0, x1, x2⟩ := RA k hlt
      replace x0 := keepc hB.out x0
      replace x1 := keepc hB.out x1
      replace x2 := keepc hB.out x2
      clear RA
      have ka : (0 : Int) ≤ (k : Int) := by omega
      have kb : (k : Int) < (n : Int) := by omega
      have OS := hid (othV_succ l a1 k)
      by_cases hid' : (ca l k).id = a1
      · have AS := hid (atV_yes GR.out hlt' hid')
        have OS2 : Hid (othV l a1 (k + 1) = othV l a1 k) := by rw [othV_succ]; simp [Hid, hid']
        have tq : ((ca l k).id == a1) = true := by simpa using hid'
        clear hid' OS
        generalize (ca l k).id = i0 at *
        generalize (ca l k).tk = i1 at *
        generalize (ca l k).ps = i2 at *
        have B4 : Hid (Below wd3.heap.size wd3 (wr.alloc (.cells #[.int .i64 i0, .int .i64 i1, .int .i64 i2] 41))) := hB.out.alloc hB.out.size _
        go_wp2
        go_roundw
        case rel => exact ⟨k + 1, by omega, by rw [AS.out], by rw [OS2.out], by go_num, B4⟩
        case measure => simp [intOf]; omega
      · have AS := hid (atV_no hid')
        have tq : ((ca l k).id == a1) = false := by simpa using hid'
        by_cases hz : (ca l k).ps = 0
        · have OS2 : Hid (othV l a1 (k + 1) = true) := by rw [othV_succ]; simp [Hid, hid', hz]
          have tz : ((ca l k).ps == 0) = true := by simpa using hz
          clear hid' OS hz
          generalize (ca l k).id = i0 at *
          generalize (ca l k).tk = i1 at *
          generalize (ca l k).ps = i2 at *
          have B4 : Hid (Below wd3.heap.size wd3 (wr.alloc (.cells #[.int .i64 i0, .int .i64 i1, .int .i64 i2] 41))) := hB.out.alloc hB.out.size _
          go_wp2
          go_roundw
          case rel => exact ⟨k + 1, by omega, by rw [AS.out], by rw [OS2.out], by go_num, B4⟩
          case measure => simp [intOf]; omega
        · have OS2 : Hid (othV l a1 (k + 1) = othV l a1 k) := by rw [othV_succ]; simp [Hid, hid', hz]
          have tz : ((ca l k).ps == 0) = false := by simpa using hz
          clear hid' OS hz
          generalize (ca l k).id = i0 at *
          generalize (ca l k).tk = i1 at *
          generalize (ca l k).ps = i2 at *
          have B4 : Hid (Below wd3.heap.size wd3 (wr.alloc (.cells #[.int .i64 i0, .int .i64 i1, .int .i64 i2] 41))) := hB.out.alloc hB.out.size _
          go_wp2
          go_roundw
          case rel => exact ⟨k + 1, by omega, by rw [AS.out], by rw [OS2.out], by go_num, B4⟩
          case measure => simp [intOf]; omega
    · have kn : k = n := by omega
      subst kn
      have G4 := hid (G3.out.below hB.out)
      have K4 := hid (K3.out.below hB.out)
      have hs4 := hB.out.size
      have B4 := hid (B3.out.trans (hB.out.mono B3.out.size))
      have KB : Hid (∀ x o, a3 = some ⟨x, o, none⟩ → 0 < k → x ≠ gb ∧ x ≠ r) := by
        intro x o e h
        have := (O3.out.lt x (by rw [e]; rfl)).1
        omega
      have KL : Hid (∀ x o, a3 = some ⟨x, o, none⟩ → 0 < k → x < wr.heap.size) := by
        intro x o e h
        have := (O3.out.lt x (by rw [e]; rfl)).2
        omega
      have hs04 := B4.out.size
      have Q4 := G4.out.lt
      clear hB O3
      go_wp2_with fail
      refine (leave_any gb r l a1 wr G4.out GR.out).mono ?_
      rintro e wd5 ⟨r5, rfl, g5, t5, p5⟩
      have G5 := hid g5
      have K5 := hid (t5.holds K4.out KB.out)
      have B5 := hid (B4.out.trans (t5.below (by omega) (by omega) B4.out.size))
      have hs5 := t5.size
      have P5 := hid p5
      have R5 : Hid (w.heap.size ≤ r5) := by rcases p5 with h | h <;> (unfold Hid; omega)
      have KB5 : Hid (∀ x o, a3 = some ⟨x, o, none⟩ → 0 < k → x ≠ gb ∧ x ≠ r5) := by
        intro x o e h
        have h1 := KB.out x o e h
        have h2 := KL.out x o e h
        exact ⟨h1.1, by rcases p5 with h | h <;> omega⟩
      have GR5 := hid (GR.out.leave a1)
      clear g5 t5 p5
      cases hh : hs l a1 with
      | false =>
        have e1 : leaveE l a1 = 8 := by unfold leaveE; rw [if_neg (by simp [hh])]
        have e2 : leaveV l a1 = 0 := by unfold leaveV; rw [if_neg (by simp [hh])]
        have e3 : leaveM l a1 = l := by unfold leaveM; rw [if_neg (by simp [hh])]
        have e4 : atV l a1 k = -1 := by unfold atV; rw [if_neg (by simp [hh])]
        rw [e3] at G5
        rw [e1, e2, e4]
        clear e1 e2 e3 e4 hh
        go_wp2_with fail
        refine (list_any gb r5 l wd5 G5.out HL).mono ?_
        rintro e wd6 ⟨v6, rfl, o6, b6⟩
        rw [HN.out] at o6
        obtain ⟨a6, c6, rfl⟩ := o6.form
        have B6 := hid (B5.out.trans (b6.mono B5.out.size))
        clear o6 b6
        go_wp2
        go_ret
        exact ⟨rfl, B6.out⟩
      | true =>
        obtain ⟨hk', he'⟩ := hs_yes hh
        have e1 : leaveE l a1 = 0 := by unfold leaveE; rw [if_pos hh]
        have e2 : leaveV l a1 = (ca l (sk l a1)).ps := by unfold leaveV; rw [if_pos hh]
        have e4 : atV l a1 k = (sk l a1 : Int) := by unfold atV; rw [if_pos ⟨by rw [← HN.out]; exact hk', hh⟩]
        have e5 : (leaveM l a1).length = k - 1 := by unfold leaveM; rw [if_pos hh, lev_len, delC_len hk', HN.out]
        have E5 := hid e5
        have AO := hid (again_ok GR.out hh)
        have AL := hid (again_len GR.out hh)
        have AS : Hid (othV l a1 k = true → joinM (leaveM l a1) a1 (ca l (sk l a1)).tk (ca l (sk l a1)).ps = l) := by
          intro ho
          unfold othV at ho
          rw [List.any_eq_true] at ho
          obtain ⟨j, hj, hj2⟩ := ho
          simp at hj hj2
          exact again_same GR.out hh (by rw [HN.out]; exact hj) hj2.1 hj2.2
        rw [HN.out] at hk'
        obtain ⟨ba, oa', rfl, _, RA⟩ := K5.out.rowC (by omega)
        obtain ⟨x0, x1, x2⟩ := RA _ hk'
        have X1 := hid x1
        rw [e1, e2, e4]
        have I1 := hid hk'
        clear RA e1 e2 e4 e5 hh he'
        obtain ⟨m, rfl⟩ : ∃ m, k = m + 1 := ⟨k - 1, by omega⟩
        have GJ := hid (fun W r (h : Grp W gb r (leaveM l a1)) => join_any gb r (leaveM l a1) a1 (ca l (sk l a1)).tk (ca l (sk l a1)).ps W h GR5.out HI.out)
        have GRJ := hid (GR5.out.join (t := (ca l (sk l a1)).tk) (r := (ca l (sk l a1)).ps) HI.out)
        rw [AO.out] at GJ
        have E6 : Hid ((leaveM l a1).length = m) := E5.out
        generalize joinM (leaveM l a1) a1 (ca l (sk l a1)).tk (ca l (sk l a1)).ps = jm at *
        generalize hlm : leaveM l a1 = lm at *
        have K5' := K5
        have X2 := hid x2
        clear AO hlm E5 x0
        generalize (ca l (sk l a1)).tk = tkv at *
        generalize (ca l (sk l a1)).ps = psv at *
        generalize hsv : sk l a1 = sv at *
        clear hsv
        have ia : (0 : Int) ≤ (sv : Int) := by omega
        have ib : (sv : Int) < (m : Int) + 1 := by omega
        have ic : decide ((sv : Int) < 0) = false := by simp
        have wr1 : IntKind.i64.wrap ((m : Int) + 1 - 1) = (m : Int) := by rw [IntKind.wrap_i64]; omega
        have tm : ((m : Int) != (m : Int)) = false := by simp
        have tp : (psv != psv) = false := by simp
        go_wp2_with fail
        refine (list_any gb r5 lm wd5 G5.out (by rw [E6.out]; omega)).mono ?_
        rintro e wd6 ⟨v6, rfl, o6, b6⟩
        rw [E6.out] at o6
        obtain ⟨a6, c6, rfl⟩ := o6.form
        have G6 := hid (G5.out.below b6)
        have K6 := hid (K5.out.below b6)
        have B6 := hid (B5.out.trans (b6.mono B5.out.size))
        have x1 := keepc b6 X1.out
        have hs6 := b6.size
        clear o6 b6
        go_wp2_with fail
        refine (GJ.out wd6 r5 G6.out).mono ?_
        rintro e wd7 ⟨r7, rfl, g7, t7, p7⟩
        have G7 := hid g7
        have K7 := hid (t7.holds K6.out KB5.out)
        have B7 := hid (B6.out.trans (t7.below (by omega) R5.out B6.out.size))
        clear g7 t7 p7 GJ
        go_wp2_with fail
        refine (list_any gb r7 jm wd7 G7.out GRJ.out.len).mono ?_
        rintro e wd8 ⟨v8, rfl, o8, b8⟩
        rw [AL.out, HN.out] at o8
        obtain ⟨a8, c8, rfl⟩ := o8.form
        have J8 := hid (o8.holds Cl.cs_len)
        have K8 := hid (K7.out.below b8)
        have B8 := hid (B7.out.trans (b8.mono B7.out.size))
        have EQ := neqC_same
        clear o8 b8 x1
        cases ho : othV l a1 (m + 1) with
        | false =>
          clear ho AS
          go_wp2_with fail
          go_loopw [98] (fun v wx => ∃ j : Nat, j ≤ m + 1 ∧ v = .int .i64 (j : Int) ∧ Hid (Below wd8.heap.size wd8 wx)) (fun v _ => m + 1 - (intOf v).toNat)
          case atStart => exact ⟨0, by omega, rfl, Below.refl _ _⟩
          case round =>
            obtain ⟨j, hj, rfl, hB⟩ := hrel
            by_cases hlj : j < m + 1
            · have ka : (0 : Int) ≤ (j : Int) := by omega
              have kb : (j : Int) < (m : Int) + 1 := by omega
              go_wp2_with fail
              go_quiet (fail)
              go_wp2
              go_roundw
              case rel => exact ⟨j + 1, by omega, by go_num, below_drewN hB.out _⟩
              case measure => simp [intOf]; omega
            · have kb : ¬ (j : Int) < (m : Int) + 1 := by omega
              have B9 := hid (B8.out.trans (hB.out.mono B8.out.size))
              go_wp2
              go_ret
              exact ⟨rfl, B9.out⟩
        | true =>
          have hjl := AS.out ho
          rw [hjl] at J8
          clear ho AS hjl
          go_wp2_with fail
          go_loopw [98] (fun v wx => ∃ j : Nat, j ≤ m + 1 ∧ v = .int .i64 (j : Int) ∧ Hid (Below wd8.heap.size wd8 wx)) (fun v _ => m + 1 - (intOf v).toNat)
          case atStart => exact ⟨0, by omega, rfl, Below.refl _ _⟩
          case round =>
            obtain ⟨j, hj, rfl, hB⟩ := hrel
            by_cases hlj : j < m + 1
            · have ka : (0 : Int) ≤ (j : Int) := by omega
              have kb : (j : Int) < (m : Int) + 1 := by omega
              obtain ⟨bb, ob, rfl, _, RB⟩ := J8.out.rowC (by omega)
              obtain ⟨bk, ok', ek, _, RK⟩ := K8.out.rowC (by omega)
              cases ek
              obtain ⟨y0, y1, y2⟩ := RB j hlj
              obtain ⟨z0, z1, z2⟩ := RK j hlj
              replace y0 := keepc hB.out y0
              replace y1 := keepc hB.out y1
              replace y2 := keepc hB.out y2
              replace z0 := keepc hB.out z0
              replace z1 := keepc hB.out z1
              replace z2 := keepc hB.out z2
              clear RB RK
              generalize (ca l j).id = i0 at *
              generalize (ca l j).tk = i1 at *
              generalize (ca l j).ps = i2 at *
              go_wp2_with fail
              go_quiet (fail)
              go_wp2
              go_roundw
              case rel => exact ⟨j + 1, by omega, by go_num, below_drewN hB.out _⟩
              case measure => simp [intOf]; omega
            · have kb : ¬ (j : Int) < (m : Int) + 1 := by omega
              have B9 := hid (B8.out.trans (hB.out.mono B8.out.size))
              go_wp2
              go_ret
              exact ⟨rfl, B9.out⟩

theorem own : ownKnob Try.prog.godebug = none := by kernel_rfl
theorem laidOut : laidOutB Try.prog = true := by kernel_rfl

set_option maxRecDepth 100000 in
theorem lifted (os : Os) (started : os.Started) (H : Type) (enc : TypeId × Value → H) :
    ReturnsInHanded {} Try.checked os 7 .any (Rows.strideLeavesSpec.pre6 enc Try.prog Try.f7 Rows.strideLeavesRow.domain false) (Rows.strideLeavesSpec.post enc Try.prog Try.f7 false true false false) := by
  refine returnsInHanded_of_change (C := Try.checked) own started (by kernel_rfl) Try.func7
    (ChangeSpec.witness6 (enc := enc) (C := Try.checked) false ⟨#[], #[.slice none 0 0, .int .i64 0], []⟩ 8 (by kernel_rfl) (by kernel_rfl) (by kernel_rfl) (by kernel_rfl)) ?_
  intro W base args ds gs before hval0 hW hcnd _
  have hval : ∀ (j : Nat) t v, Try.f7.params[j]? = some t → args[j]? = some v → Value.okWide Try.prog W .any base t v := hval0
  have hW' := hW
  obtain ⟨p, q, hA0, hV, rfl, hfz, hnd⟩ := hW
  have hA : DataW.TrodAll enc Try.prog W 0 (fun _ => true) true Try.f7.params.toList args.toList ds p := hA0
  rw [Try.params7] at hA hval
  obtain ⟨v0, vs0, d0, ds0, p0, q0, hargs, rfl, rfl, h0, r0⟩ := trodAll_cons hA
  obtain ⟨v1, vs1, d1, ds1, p1, q1, rfl, rfl, rfl, h1, r1⟩ := trodAll_cons r0
  obtain ⟨rfl, rfl, rfl⟩ := trodAll_nil r1
  obtain rfl : args = #[v0, v1] := by cases args; simp_all
  obtain ⟨rfl, rfl⟩ := trodVars_none hV
  have lt0 : ∀ x ∈ p0, x.block < W.heap.size := by obtain ⟨m, hm⟩ := h0; exact DataW.trod_lt m _ _ _ hm
  have lt1 : ∀ x ∈ p1, x.block < W.heap.size := by obtain ⟨m, hm⟩ := h1; exact DataW.trod_lt m _ _ _ hm
  obtain ⟨a0, len0, cap0, rfl⟩ := okWide_slice Try.underlying22 (hval 0 22 v0 rfl rfl)
  obtain ⟨z0, w0, k0, dr0⟩ := val_rowE (k := 5) (en := Oc.cs) (ok := Oc.ok) Try.underlying22 (by kernel_rfl) Oc.cs_len (by decide) (fun _ _ _ h => trod_op h) h0
  obtain ⟨a1, rfl, w1⟩ := val_i64 Try.underlying3 (hval 1 3 v1 rfl rfl) h1
  clear hA0 hval0
  refine (walk a0 len0 cap0 z0 a1 W w0 k0 w1).mono fun e W' ⟨he, bel⟩ => ?_
  subst he
  exact ⟨_, rfl, _, _, _, [], _, [], hW', trodAll_mk1 (shut_bool Try.underlying4 _), (trodAll_cons_mk (Below.trod laidOut (by kernel_rfl) (of_decide_eq_true (by kernel_rfl)) h0 bel lt0) (trodAll_cons_mk (Below.trod laidOut (by kernel_rfl) (of_decide_eq_true (by kernel_rfl)) h1 bel lt1) trodAll_mk0)), rfl, bel.frame _, fun h => by cases h⟩

theorem over : Rows.strideLeavesRow.holds Try.pinned (OpenSpec.ofChange Rows.strideLeavesSpec) :=
  OpenClaim.holds_of_wide 7 Try.f7 rfl rfl rfl rfl rfl rfl rfl ⟨rfl, rfl, rfl, rfl, rfl⟩ rfl rfl rfl rfl rfl (by kernel_rfl) Try.func7 (by kernel_rfl)
    (of_decide_eq_true (by kernel_rfl)) (by unfold Func.isWrapper; first | (rw [if_pos (by decide +kernel)]; kernel_rfl) | (rw [if_neg (by decide +kernel)]; exact ⟨rfl, rfl⟩))
    (fun os started H enc _ => lifted os started H enc)

theorem proved : Rows.StrideLeavesSaid := over
#print axioms proved
end Go.Proofs.Ytdenhpclopjjgaa.strideLeaves
