/- StrideFair: for every list of calls and every count the law answers true, and the list reads as it did. No further conditions. -/
import Derived.Test.YtdenhpclopjjgaaGP
namespace Go.Proofs.Ytdenhpclopjjgaa.strideFair
open Go.ChangeShapes Go.WideShapes Go.ChangeAt Go.RowKit Go.Deep Go.Maps
set_option linter.unusedVariables false
set_option linter.unusedSimpArgs false

theorem sm_bound {f : Nat → Int} {k : Nat} {c : Int} (h : ∀ i, i < k → 0 ≤ f i ∧ f i ≤ c) : 0 ≤ sm f k ∧ sm f k ≤ c * k := by
  have h1 := sm_le (f := fun _ => 0) (g := f) (k := k) (fun i hi => (h i hi).1)
  have h2 := sm_le (f := f) (g := fun _ => c) (k := k) (fun i hi => (h i hi).2)
  rw [sm_const] at h1 h2
  omega
theorem tks_bound {l : List Cl} (h : Gr l) {k : Nat} (hk : k ≤ l.length) : 0 ≤ sm (fun i => (ca l i).tk) k ∧ sm (fun i => (ca l i).tk) k ≤ 16 * k :=
  sm_bound (fun i hi => by obtain ⟨_, a, b, _⟩ := h.rng i (by omega); omega)
/-- How often an Id stands among the first q. -/
def cnt (l : List Int) (x : Int) (q : Nat) : Int := ((l.take q).count x : Int)
theorem cnt_succ {l : List Int} {x : Int} {q : Nat} (h : q < l.length) : cnt l x (q + 1) = cnt l x q + if l[q]?.getD 0 = x then 1 else 0 := by
  unfold cnt
  rw [List.take_add_one, List.getElem?_eq_getElem h, List.count_append]
  simp only [Option.toList_some, List.count_singleton, Option.getD_some]
  by_cases e : l[q] = x
  · simp [e]
  · have : (l[q] == x) = false := by simpa using e
    simp [e]
theorem cnt_le (l : List Int) (x : Int) (q : Nat) : 0 ≤ cnt l x q ∧ cnt l x q ≤ q := by
  unfold cnt
  have := List.count_le_length (a := x) (l := l.take q)
  simp at this
  omega
/-- The least pass of the first k. -/
def lmin (l : List Cl) : Nat → Int
  | 0 => 4611686018427387904
  | k + 1 => if (ca l k).ps < lmin l k then (ca l k).ps else lmin l k
theorem lmin_le (l : List Cl) (k : Nat) : ∀ i, i < k → lmin l k ≤ (ca l i).ps := by
  induction k with
  | zero => intro i h; omega
  | succ k ih =>
    intro i h
    unfold lmin
    rcases Nat.lt_or_ge i k with h1 | h1
    · have := ih i h1; split <;> omega
    · obtain rfl : i = k := by omega
      split <;> omega
theorem lmin_nn {l : List Cl} (h : Gr l) (k : Nat) (hk : k ≤ l.length) : 0 ≤ lmin l k ∧ lmin l k ≤ 4611686018427387904 := by
  induction k with
  | zero => unfold lmin; omega
  | succ k ih =>
    have := ih (by omega)
    obtain ⟨_, _, _, a, b⟩ := h.rng k (by omega)
    unfold lmin
    split <;> omega
theorem lmin_zero {l : List Cl} (h : Gr l) (hp : 0 < l.length) : lmin l l.length = 0 := by
  have h1 := lmin_le l l.length _ (bs_lt hp)
  have h2 := h.low hp
  have h3 := lmin_nn h l.length (Nat.le_refl _)
  unfold low at h2
  omega

set_option maxRecDepth 100000 in
set_option maxHeartbeats 16000000 in
theorem walk_in (a0 : Option Addr) (len0 cap0 : Nat) (z0 : List Oc) (w : World) (w0 : HoldsO w a0 len0 cap0 z0) (k0 : ∀ o ∈ z0, o.ok) (N : Nat) (hN : N ≤ 3000) :
    Calls Try.prog 4 #[.slice a0 len0 cap0, .int .i64 (N : Int)] w fun e w' => e = .returned (.bool true) ∧ Below w.heap.size w w' := by
  have HH := hid w0
  have KK := hid k0
  have GM := Gr.made k0
  clear w0 k0
  have t1 : decide ((N : Int) < 0) = false := by simp
  have t2 : decide ((3000 : Int) < (N : Int)) = false := by simp; omega
  go_enter Try.func4, Try.ntmps4
  go_wp2_with fail
  refine (awake9_any w).mono ?_
  rintro e wd1 ⟨rfl, b1⟩
  have B1 := hid b1
  clear b1
  go_wp2_with fail
  refine (made_any a0 len0 cap0 z0 wd1 (HH.out.below B1.out) KK.out).mono ?_
  rintro e wd2 ⟨gb, r, rfl, g2, hg2, hr2, b2⟩
  have G2 := hid g2
  have B2 := hid (B1.out.trans (b2.mono B1.out.size))
  have hs1 := B1.out.size
  clear b2 g2
  have HL := GM.len
  have GR := hid GM
  generalize hml : madeM z0 = l at *
  clear hml HH KK
  clear GM
  obtain ⟨n, hn⟩ : ∃ n, l.length = n := ⟨_, rfl⟩
  have HN := hid hn
  go_wp2_with fail
  refine (list_any gb r l wd2 G2.out HL).mono ?_
  rintro e wd3 ⟨v3, rfl, o3, b3⟩
  rw [hn] at o3
  obtain ⟨a3, c3, rfl⟩ := o3.form
  have B3 := hid (B2.out.trans (b3.mono B2.out.size))
  have G3 := hid (G2.out.below b3)
  have K3 := hid (o3.holds Cl.cs_len)
  have hs2 := b3.size
  have hs02 := B2.out.size
  obtain ⟨hgl, hrl⟩ := G2.out.lt
  have KB : Hid (∀ x o, a3 = some ⟨x, o, none⟩ → 0 < n → x ≠ gb ∧ x ≠ r) := by
    intro x o e h
    have := (o3.lt x (by rw [e]; rfl)).1
    omega
  clear b3 o3
  by_cases hz : n = 0
  · have tz : ((n : Int) == 0) = true := by simp [hz]
    clear hz
    go_wp2
    go_ret
    exact ⟨rfl, B3.out⟩
  have tz : ((n : Int) == 0) = false := by simpa using (by omega : ¬ (n : Int) = 0)
  have hp : 0 < l.length := by omega
  have RN := hid (fun W r (h : Grp W gb r l) => run_any gb r l (N : Int) W h GR.out)
  obtain ⟨e1, e2, e3⟩ := runE_ok (l := l) (n := N) (by omega) (fun _ => hp)
  skip
  rw [e1, e2, e3, pids_len] at RN
  clear e1 e2 e3 hz
  have tnn : ((N : Int) != (N : Int)) = false := by simp
  go_wp2_with fail
  refine (RN.out wd3 r G3.out).mono ?_
  rintro e wd4 ⟨v4, rfl, o4, g4, t4⟩
  have G4 := hid g4
  have K4 := hid (t4.holds K3.out KB.out)
  have B4 := hid (B3.out.trans (t4.below (by omega) (by omega) B3.out.size))
  obtain ⟨a4, c4, rfl⟩ := o4.form
  have I4 := hid (o4.holds encN_len)
  have GP := hid (GR.out.pks hp N)
  have CN : Hid (∀ i, i < n → ((pids l N).count (ca l i).id : Int) = had l N i) := fun i hi => pids_count GR.out hp N (by rw [HN.out]; exact hi)
  have FA : Hid (∀ i, i < n → -(tks l * ((n : Int) - 1)) ≤ had l N i * tks l - (N : Int) * (ca l i).tk ∧ had l N i * tks l - (N : Int) * (ca l i).tk ≤ tks l * ((n : Int) - 1)) := fun i hi => by
    have := fair GR.out N (i := i) (by rw [HN.out]; exact hi)
    rw [HN.out] at this
    exact this
  have TB : Hid (∀ k, k ≤ n → 0 ≤ sm (fun i => (ca l i).tk) k ∧ sm (fun i => (ca l i).tk) k ≤ 16 * k) := fun k hk => tks_bound GR.out (by rw [HN.out]; exact hk)
  have TK : Hid (sm (fun i => (ca l i).tk) n = tks l) := by unfold Hid tks; rw [HN.out]
  have PL : Hid ((pids l N).length = N) := pids_len _ _
  have LM : Hid (lmin (pks l N) n = 0) := by
    have := lmin_zero GP.out (by rw [pks_len]; exact hp)
    rwa [pks_len, HN.out] at this
  have PKL : Hid ((pks l N).length = n) := by unfold Hid; rw [pks_len, HN.out]
  clear o4 g4 t4 RN G3 K3
  go_wp2_with fail
  go_loopw [9, 52] (fun u v wr => ∃ k : Nat, k ≤ n ∧ u = .int .i64 (sm (fun i => (ca l i).tk) k) ∧ v = .int .i64 (k : Int) ∧ Hid (Below wd4.heap.size wd4 wr)) (fun _ v _ => n - (intOf v).toNat)
  case atStart => exact ⟨0, by omega, rfl, rfl, Below.refl _ _⟩
  case round =>
    obtain ⟨k, hk, rfl, rfl, hB⟩ := hrel
    by_cases hlt : k < n
    · obtain ⟨ba, oa', rfl, _, RA⟩ := K4.out.rowC (by omega)
      obtain ⟨x0, x1, x2⟩ := RA k hlt
      replace x0 := keepc hB.out x0
      replace x1 := keepc hB.out x1
      replace x2 := keepc hB.out x2
      clear RA
      have ka : (0 : Int) ≤ (k : Int) := by omega
      have kb : (k : Int) < (n : Int) := by omega
      have bd1 := TB.out (k + 1) (by omega)
      have SU : Hid (sm (fun i => (ca l i).tk) (k + 1) = sm (fun i => (ca l i).tk) k + (ca l k).tk) := rfl
      rw [SU.out] at bd1
      have hw : IntKind.i64.wrap (sm (fun i => (ca l i).tk) k + (ca l k).tk) = sm (fun i => (ca l i).tk) k + (ca l k).tk := by rw [IntKind.wrap_i64]; omega
      generalize (ca l k).id = i0 at *
      generalize (ca l k).tk = i1 at *
      generalize (ca l k).ps = i2 at *
      generalize hsk : sm (fun i => (ca l i).tk) k = sk1 at *
      have B5 : Hid (Below wd4.heap.size wd4 (wr.alloc (.cells #[.int .i64 i0, .int .i64 i1, .int .i64 i2] 41))) := hB.out.alloc hB.out.size _
      clear bd1 hsk
      go_wp2
      go_roundw
      case rel => exact ⟨k + 1, by omega, by rw [SU.out], by go_num, B5⟩
      case measure => simp [intOf]; omega
    · have kn : k = n := by omega
      subst kn
      rw [TK.out]
      have bT := TB.out k (Nat.le_refl _)
      rw [TK.out] at bT
      have B5 := hid hB.out
      clear hB TB TK
      generalize tks l = T at *
      go_wp2_with fail
      go_loopw [63] (fun v wr' => ∃ i : Nat, i ≤ k ∧ v = .int .i64 (i : Int) ∧ Hid (Below wd4.heap.size wd4 wr')) (fun v _ => k - (intOf v).toNat)
      case atStart => exact ⟨0, by omega, rfl, B5.out⟩
      case round =>
        rename World => wi
        obtain ⟨i, hi, rfl, hB⟩ := hrel
        by_cases hlt2 : i < k
        · obtain ⟨ba, oa', rfl, _, RA⟩ := K4.out.rowC (by omega)
          obtain ⟨x0, x1, x2⟩ := RA i hlt2
          replace x0 := keepc hB.out x0
          replace x1 := keepc hB.out x1
          replace x2 := keepc hB.out x2
          clear RA
          have ka : (0 : Int) ≤ (i : Int) := by omega
          have kb : (i : Int) < (k : Int) := by omega
          have hil : i < l.length := by rw [HN.out]; exact hlt2
          obtain ⟨_, tk1, tk2, _, _⟩ := GR.out.rng i hil
          have cq := CN.out i hlt2
          have fq := FA.out i hlt2
          have CT : Hid (cnt (pids l N) (ca l i).id N = had l N i) := by
            unfold Hid cnt
            rw [List.take_of_length_le (by rw [PL.out]; exact Nat.le_refl _)]; exact cq
          have hb := cnt_le (pids l N) (ca l i).id N
          rw [CT.out] at hb
          generalize had l N i = Hh at *
          generalize hI0 : (ca l i).id = i0 at *
          generalize (ca l i).tk = i1 at *
          generalize (ca l i).ps = i2 at *
          obtain ⟨P1, hP⟩ : ∃ x, Hh * T = x := ⟨_, rfl⟩
          obtain ⟨Q1, hQ⟩ : ∃ x, (N : Int) * i1 = x := ⟨_, rfl⟩
          obtain ⟨R1, hR⟩ : ∃ x, T * ((k : Int) - 1) = x := ⟨_, rfl⟩
          rw [hP, hQ, hR] at fq
          have bP : 0 ≤ P1 ∧ P1 ≤ 3000 * 16384 := by
            rw [← hP]
            exact ⟨Int.mul_nonneg hb.1 bT.1, Int.mul_le_mul (by omega) (by omega) bT.1 (by omega)⟩
          have bQ : 0 ≤ Q1 ∧ Q1 ≤ 3000 * 16 := by
            rw [← hQ]
            exact ⟨Int.mul_nonneg (by omega) (by omega), Int.mul_le_mul (by omega) tk2 (by omega) (by omega)⟩
          have bR : 0 ≤ R1 ∧ R1 ≤ 16384 * 1024 := by
            rw [← hR]
            exact ⟨Int.mul_nonneg bT.1 (by omega), Int.mul_le_mul (by omega) (by omega) (by omega) (by omega)⟩
          have hw1 : IntKind.i64.wrap P1 = P1 := by rw [IntKind.wrap_i64]; omega
          have hw2 : IntKind.i64.wrap Q1 = Q1 := by rw [IntKind.wrap_i64]; omega
          have hw3 : IntKind.i64.wrap (P1 - Q1) = P1 - Q1 := by rw [IntKind.wrap_i64]; omega
          have hw4 : IntKind.i64.wrap ((k : Int) - 1) = (k : Int) - 1 := by rw [IntKind.wrap_i64]; omega
          have hw5 : IntKind.i64.wrap R1 = R1 := by rw [IntKind.wrap_i64]; omega
          have hw6 : IntKind.i64.wrap (-(P1 - Q1)) = -(P1 - Q1) := by rw [IntKind.wrap_i64]; omega
          have td1 : decide (R1 < P1 - Q1) = false := by simp; omega
          have td2 : decide (R1 < -(P1 - Q1)) = false := by simp; omega
          have hQc := hQ
          have B6 : Hid (Below wd4.heap.size wd4 (wi.alloc (.cells #[.int .i64 i0, .int .i64 i1, .int .i64 i2] 41))) := hB.out.alloc hB.out.size _
          have I5 := hid (I4.out.below B6.out)
          have y0 : (wi.alloc (.cells #[.int .i64 i0, .int .i64 i1, .int .i64 i2] 41)).cell? ⟨wi.heap.size, 0, none⟩ = some (.int .i64 i0) := by simp [go_sem]
          have y1 : (wi.alloc (.cells #[.int .i64 i0, .int .i64 i1, .int .i64 i2] 41)).cell? ⟨wi.heap.size, 1, none⟩ = some (.int .i64 i1) := by simp [go_sem]
          clear fq bP bQ bR cq tk1 tk2 hI0 hb CN FA hB
          go_wp2_with fail
          generalize (wi.alloc (.cells #[.int .i64 i0, .int .i64 i1, .int .i64 i2] 41)) = W6 at *
          go_loop [14, 69] (fun u v => ∃ q : Nat, q ≤ N ∧ u = .int .i64 (cnt (pids l N) i0 q) ∧ v = .int .i64 (q : Int)) (fun _ v => N - (intOf v).toNat)
          case atStart => exact ⟨0, by omega, rfl, rfl⟩
          case round =>
            obtain ⟨q, hq, rfl, rfl⟩ := hrel
            by_cases hlq : q < N
            · obtain ⟨bi, oi, rfl, RI⟩ := I5.out.rowN (by omega)
              have c0 := RI q hlq
              clear RI
              have CS := hid (cnt_succ (l := pids l N) (x := i0) (q := q) (by rw [PL.out]; exact hlq))
              have cb := cnt_le (pids l N) i0 q
              have qa' : (0 : Int) ≤ (q : Int) := by omega
              have qb : (q : Int) < (N : Int) := by omega
              have hwq : IntKind.i64.wrap (cnt (pids l N) i0 q + 1) = cnt (pids l N) i0 q + 1 := by rw [IntKind.wrap_i64]; omega
              by_cases he : (pids l N)[q]?.getD 0 = i0
              · have CS2 : Hid (cnt (pids l N) i0 (q + 1) = cnt (pids l N) i0 q + 1) := by rw [CS.out, if_pos he]; exact rfl
                have te : ((pids l N)[q]?.getD 0 == i0) = true := by simpa using he
                clear he CS cb
                generalize (pids l N)[q]?.getD 0 = y at *
                generalize cnt (pids l N) i0 q = cv at *
                go_wp2
                go_round
                case rel => exact ⟨q + 1, by omega, by rw [CS2.out], by go_num⟩
                case measure => simp [intOf]; omega
              · have CS2 : Hid (cnt (pids l N) i0 (q + 1) = cnt (pids l N) i0 q) := by unfold Hid; rw [CS.out, if_neg he]; omega
                have te : ((pids l N)[q]?.getD 0 == i0) = false := by simpa using he
                clear he CS cb
                generalize (pids l N)[q]?.getD 0 = y at *
                generalize cnt (pids l N) i0 q = cv at *
                go_wp2
                go_round
                case rel => exact ⟨q + 1, by omega, by rw [CS2.out], by go_num⟩
                case measure => simp [intOf]; omega
            · have qn : q = N := by omega
              subst qn
              rw [CT.out]
              go_wp2
              go_roundw
              case rel => exact ⟨i + 1, by omega, by go_num, B6⟩
              case measure => simp [intOf]; omega
        · have ik : i = k := by omega
          subst ik
          have G6 := hid (G4.out.below hB.out)
          have B6 := hid (B4.out.trans (hB.out.mono B4.out.size))
          have GPL := GP.out.len
          clear hB
          go_wp2_with fail
          refine (list_any gb r _ wi G6.out GPL).mono ?_
          rintro e wd8 ⟨v8, rfl, o8, b8⟩
          rw [PKL.out] at o8
          obtain ⟨a8, c8, rfl⟩ := o8.form
          have J8 := hid (o8.holds Cl.cs_len)
          have B8 := hid (B6.out.trans (b8.mono B6.out.size))
          clear o8 b8
          go_wp2_with fail
          go_loopw [18, 109] (fun u v wx => ∃ j : Nat, j ≤ i ∧ u = .int .i64 (lmin (pks l N) j) ∧ v = .int .i64 (j : Int) ∧ Hid (Below wd8.heap.size wd8 wx)) (fun _ v _ => i - (intOf v).toNat)
          case atStart => exact ⟨0, by omega, rfl, rfl, Below.refl _ _⟩
          case round =>
            rename World => wx
            obtain ⟨j, hj, rfl, rfl, hB⟩ := hrel
            by_cases hlj : j < i
            · obtain ⟨bb, ob, rfl, _, RB⟩ := J8.out.rowC (by omega)
              obtain ⟨y0, y1, y2⟩ := RB j hlj
              replace y0 := keepc hB.out y0
              replace y1 := keepc hB.out y1
              replace y2 := keepc hB.out y2
              clear RB
              have ka : (0 : Int) ≤ (j : Int) := by omega
              have kb : (j : Int) < (i : Int) := by omega
              obtain ⟨_, tk1, tk2, pa, pb⟩ := GP.out.rng j (by rw [PKL.out]; exact hlj)
              have LS : Hid (lmin (pks l N) (j + 1) = if (ca (pks l N) j).ps < lmin (pks l N) j then (ca (pks l N) j).ps else lmin (pks l N) j) := rfl
              have hd := stv_tdiv tk1 tk2
              have sp := stv_pos tk1 tk2
              have hz : ¬ ((ca (pks l N) j).tk = 0) := by omega
              generalize (ca (pks l N) j).id = i0 at *
              generalize (ca (pks l N) j).tk = i1 at *
              generalize (ca (pks l N) j).ps = i2 at *
              generalize stv i1 = sv at *
              have hw : IntKind.i64.wrap sv = sv := by rw [IntKind.wrap_i64]; omega
              have td1 : decide (i2 < 0) = false := by simp; omega
              have td2 : decide (sv < i2) = false := by simp; omega
              have B9 : Hid (Below wd8.heap.size wd8 (wx.alloc (.cells #[.int .i64 i0, .int .i64 i1, .int .i64 i2] 41))) := hB.out.alloc hB.out.size _
              have u1 : (wx.alloc (.cells #[.int .i64 i0, .int .i64 i1, .int .i64 i2] 41)).cell? ⟨wx.heap.size, 1, none⟩ = some (.int .i64 i1) := by simp [go_sem]
              have u2 : (wx.alloc (.cells #[.int .i64 i0, .int .i64 i1, .int .i64 i2] 41)).cell? ⟨wx.heap.size, 2, none⟩ = some (.int .i64 i2) := by simp [go_sem]
              generalize lmin (pks l N) j = lm at *
              clear tk1 tk2 pa pb sp
              go_wp2_with fail
              all_goals
                go_quiet (fail)
                go_wp2
                go_roundw
                case rel => exact ⟨j + 1, by omega, by rw [LS.out]; split <;> (first | rfl | (congr 1; omega)), by go_num, below_drewN B9.out _⟩
                case measure => simp [intOf]; omega
            · have jn : j = i := by omega
              subst jn
              rw [LM.out]
              have B9 := hid (B8.out.trans (hB.out.mono B8.out.size))
              go_wp2
              go_ret
              exact ⟨rfl, B9.out⟩

set_option maxRecDepth 100000 in
set_option maxHeartbeats 16000000 in
theorem walk_lo (a0 : Option Addr) (len0 cap0 : Nat) (z0 : List Oc) (a1 : Int) (w : World) (w0 : HoldsO w a0 len0 cap0 z0) (k0 : ∀ o ∈ z0, o.ok) (t1 : decide (a1 < 0) = true) :
    Calls Try.prog 4 #[.slice a0 len0 cap0, .int .i64 a1] w fun e w' => e = .returned (.bool true) ∧ Below w.heap.size w w' := by
  have HH := hid w0
  have KK := hid k0
  have GM := Gr.made k0
  clear w0 k0
  obtain ⟨N, hN0⟩ : ∃ N : Nat, (100 : Int) = (N : Int) := ⟨100, rfl⟩
  have hN : N ≤ 3000 := by omega
  go_enter Try.func4, Try.ntmps4
  go_wp2_with fail
  refine (awake9_any w).mono ?_
  rintro e wd1 ⟨rfl, b1⟩
  have B1 := hid b1
  clear b1
  go_wp2_with fail
  refine (made_any a0 len0 cap0 z0 wd1 (HH.out.below B1.out) KK.out).mono ?_
  rintro e wd2 ⟨gb, r, rfl, g2, hg2, hr2, b2⟩
  have G2 := hid g2
  have B2 := hid (B1.out.trans (b2.mono B1.out.size))
  have hs1 := B1.out.size
  clear b2 g2
  have HL := GM.len
  have GR := hid GM
  generalize hml : madeM z0 = l at *
  clear hml HH KK
  clear GM
  obtain ⟨n, hn⟩ : ∃ n, l.length = n := ⟨_, rfl⟩
  have HN := hid hn
  go_wp2_with fail
  refine (list_any gb r l wd2 G2.out HL).mono ?_
  rintro e wd3 ⟨v3, rfl, o3, b3⟩
  rw [hn] at o3
  obtain ⟨a3, c3, rfl⟩ := o3.form
  have B3 := hid (B2.out.trans (b3.mono B2.out.size))
  have G3 := hid (G2.out.below b3)
  have K3 := hid (o3.holds Cl.cs_len)
  have hs2 := b3.size
  have hs02 := B2.out.size
  obtain ⟨hgl, hrl⟩ := G2.out.lt
  have KB : Hid (∀ x o, a3 = some ⟨x, o, none⟩ → 0 < n → x ≠ gb ∧ x ≠ r) := by
    intro x o e h
    have := (o3.lt x (by rw [e]; rfl)).1
    omega
  clear b3 o3
  by_cases hz : n = 0
  · have tz : ((n : Int) == 0) = true := by simp [hz]
    clear hz
    go_wp2
    go_ret
    exact ⟨rfl, B3.out⟩
  have tz : ((n : Int) == 0) = false := by simpa using (by omega : ¬ (n : Int) = 0)
  have hp : 0 < l.length := by omega
  have RN := hid (fun W r (h : Grp W gb r l) => run_any gb r l (N : Int) W h GR.out)
  obtain ⟨e1, e2, e3⟩ := runE_ok (l := l) (n := N) (by omega) (fun _ => hp)
  skip
  rw [e1, e2, e3, pids_len] at RN
  clear e1 e2 e3 hz
  have tnn : ((N : Int) != (N : Int)) = false := by simp
  go_wp2_with fail
  refine (RN.out wd3 r G3.out).mono ?_
  rintro e wd4 ⟨v4, rfl, o4, g4, t4⟩
  have G4 := hid g4
  have K4 := hid (t4.holds K3.out KB.out)
  have B4 := hid (B3.out.trans (t4.below (by omega) (by omega) B3.out.size))
  obtain ⟨a4, c4, rfl⟩ := o4.form
  have I4 := hid (o4.holds encN_len)
  have GP := hid (GR.out.pks hp N)
  have CN : Hid (∀ i, i < n → ((pids l N).count (ca l i).id : Int) = had l N i) := fun i hi => pids_count GR.out hp N (by rw [HN.out]; exact hi)
  have FA : Hid (∀ i, i < n → -(tks l * ((n : Int) - 1)) ≤ had l N i * tks l - (N : Int) * (ca l i).tk ∧ had l N i * tks l - (N : Int) * (ca l i).tk ≤ tks l * ((n : Int) - 1)) := fun i hi => by
    have := fair GR.out N (i := i) (by rw [HN.out]; exact hi)
    rw [HN.out] at this
    exact this
  have TB : Hid (∀ k, k ≤ n → 0 ≤ sm (fun i => (ca l i).tk) k ∧ sm (fun i => (ca l i).tk) k ≤ 16 * k) := fun k hk => tks_bound GR.out (by rw [HN.out]; exact hk)
  have TK : Hid (sm (fun i => (ca l i).tk) n = tks l) := by unfold Hid tks; rw [HN.out]
  have PL : Hid ((pids l N).length = N) := pids_len _ _
  have LM : Hid (lmin (pks l N) n = 0) := by
    have := lmin_zero GP.out (by rw [pks_len]; exact hp)
    rwa [pks_len, HN.out] at this
  have PKL : Hid ((pks l N).length = n) := by unfold Hid; rw [pks_len, HN.out]
  clear o4 g4 t4 RN G3 K3
  go_wp2_with fail
  go_loopw [9, 52] (fun u v wr => ∃ k : Nat, k ≤ n ∧ u = .int .i64 (sm (fun i => (ca l i).tk) k) ∧ v = .int .i64 (k : Int) ∧ Hid (Below wd4.heap.size wd4 wr)) (fun _ v _ => n - (intOf v).toNat)
  case atStart => exact ⟨0, by omega, rfl, rfl, Below.refl _ _⟩
  case round =>
    obtain ⟨k, hk, rfl, rfl, hB⟩ := hrel
    by_cases hlt : k < n
    · obtain ⟨ba, oa', rfl, _, RA⟩ := K4.out.rowC (by omega)
      obtain ⟨x0, x1, x2⟩ := RA k hlt
      replace x0 := keepc hB.out x0
      replace x1 := keepc hB.out x1
      replace x2 := keepc hB.out x2
      clear RA
      have ka : (0 : Int) ≤ (k : Int) := by omega
      have kb : (k : Int) < (n : Int) := by omega
      have bd1 := TB.out (k + 1) (by omega)
      have SU : Hid (sm (fun i => (ca l i).tk) (k + 1) = sm (fun i => (ca l i).tk) k + (ca l k).tk) := rfl
      rw [SU.out] at bd1
      have hw : IntKind.i64.wrap (sm (fun i => (ca l i).tk) k + (ca l k).tk) = sm (fun i => (ca l i).tk) k + (ca l k).tk := by rw [IntKind.wrap_i64]; omega
      generalize (ca l k).id = i0 at *
      generalize (ca l k).tk = i1 at *
      generalize (ca l k).ps = i2 at *
      generalize hsk : sm (fun i => (ca l i).tk) k = sk1 at *
      have B5 : Hid (Below wd4.heap.size wd4 (wr.alloc (.cells #[.int .i64 i0, .int .i64 i1, .int .i64 i2] 41))) := hB.out.alloc hB.out.size _
      clear bd1 hsk
      go_wp2
      go_roundw
      case rel => exact ⟨k + 1, by omega, by rw [SU.out], by go_num, B5⟩
      case measure => simp [intOf]; omega
    · have kn : k = n := by omega
      subst kn
      rw [TK.out]
      have bT := TB.out k (Nat.le_refl _)
      rw [TK.out] at bT
      have B5 := hid hB.out
      clear hB TB TK
      generalize tks l = T at *
      go_wp2_with fail
      go_loopw [63] (fun v wr' => ∃ i : Nat, i ≤ k ∧ v = .int .i64 (i : Int) ∧ Hid (Below wd4.heap.size wd4 wr')) (fun v _ => k - (intOf v).toNat)
      case atStart => exact ⟨0, by omega, rfl, B5.out⟩
      case round =>
        rename World => wi
        obtain ⟨i, hi, rfl, hB⟩ := hrel
        by_cases hlt2 : i < k
        · obtain ⟨ba, oa', rfl, _, RA⟩ := K4.out.rowC (by omega)
          obtain ⟨x0, x1, x2⟩ := RA i hlt2
          replace x0 := keepc hB.out x0
          replace x1 := keepc hB.out x1
          replace x2 := keepc hB.out x2
          clear RA
          have ka : (0 : Int) ≤ (i : Int) := by omega
          have kb : (i : Int) < (k : Int) := by omega
          have hil : i < l.length := by rw [HN.out]; exact hlt2
          obtain ⟨_, tk1, tk2, _, _⟩ := GR.out.rng i hil
          have cq := CN.out i hlt2
          have fq := FA.out i hlt2
          have CT : Hid (cnt (pids l N) (ca l i).id N = had l N i) := by
            unfold Hid cnt
            rw [List.take_of_length_le (by rw [PL.out]; exact Nat.le_refl _)]; exact cq
          have hb := cnt_le (pids l N) (ca l i).id N
          rw [CT.out] at hb
          generalize had l N i = Hh at *
          generalize hI0 : (ca l i).id = i0 at *
          generalize (ca l i).tk = i1 at *
          generalize (ca l i).ps = i2 at *
          obtain ⟨P1, hP⟩ : ∃ x, Hh * T = x := ⟨_, rfl⟩
          obtain ⟨Q1, hQ⟩ : ∃ x, (N : Int) * i1 = x := ⟨_, rfl⟩
          obtain ⟨R1, hR⟩ : ∃ x, T * ((k : Int) - 1) = x := ⟨_, rfl⟩
          rw [hP, hQ, hR] at fq
          have bP : 0 ≤ P1 ∧ P1 ≤ 3000 * 16384 := by
            rw [← hP]
            exact ⟨Int.mul_nonneg hb.1 bT.1, Int.mul_le_mul (by omega) (by omega) bT.1 (by omega)⟩
          have bQ : 0 ≤ Q1 ∧ Q1 ≤ 3000 * 16 := by
            rw [← hQ]
            exact ⟨Int.mul_nonneg (by omega) (by omega), Int.mul_le_mul (by omega) tk2 (by omega) (by omega)⟩
          have bR : 0 ≤ R1 ∧ R1 ≤ 16384 * 1024 := by
            rw [← hR]
            exact ⟨Int.mul_nonneg bT.1 (by omega), Int.mul_le_mul (by omega) (by omega) (by omega) (by omega)⟩
          have hw1 : IntKind.i64.wrap P1 = P1 := by rw [IntKind.wrap_i64]; omega
          have hw2 : IntKind.i64.wrap Q1 = Q1 := by rw [IntKind.wrap_i64]; omega
          have hw3 : IntKind.i64.wrap (P1 - Q1) = P1 - Q1 := by rw [IntKind.wrap_i64]; omega
          have hw4 : IntKind.i64.wrap ((k : Int) - 1) = (k : Int) - 1 := by rw [IntKind.wrap_i64]; omega
          have hw5 : IntKind.i64.wrap R1 = R1 := by rw [IntKind.wrap_i64]; omega
          have hw6 : IntKind.i64.wrap (-(P1 - Q1)) = -(P1 - Q1) := by rw [IntKind.wrap_i64]; omega
          have td1 : decide (R1 < P1 - Q1) = false := by simp; omega
          have td2 : decide (R1 < -(P1 - Q1)) = false := by simp; omega
          have hQc := hQ
          have B6 : Hid (Below wd4.heap.size wd4 (wi.alloc (.cells #[.int .i64 i0, .int .i64 i1, .int .i64 i2] 41))) := hB.out.alloc hB.out.size _
          have I5 := hid (I4.out.below B6.out)
          have y0 : (wi.alloc (.cells #[.int .i64 i0, .int .i64 i1, .int .i64 i2] 41)).cell? ⟨wi.heap.size, 0, none⟩ = some (.int .i64 i0) := by simp [go_sem]
          have y1 : (wi.alloc (.cells #[.int .i64 i0, .int .i64 i1, .int .i64 i2] 41)).cell? ⟨wi.heap.size, 1, none⟩ = some (.int .i64 i1) := by simp [go_sem]
          clear fq bP bQ bR cq tk1 tk2 hI0 hb CN FA hB
          go_wp2_with fail
          generalize (wi.alloc (.cells #[.int .i64 i0, .int .i64 i1, .int .i64 i2] 41)) = W6 at *
          go_loop [14, 69] (fun u v => ∃ q : Nat, q ≤ N ∧ u = .int .i64 (cnt (pids l N) i0 q) ∧ v = .int .i64 (q : Int)) (fun _ v => N - (intOf v).toNat)
          case atStart => exact ⟨0, by omega, rfl, rfl⟩
          case round =>
            obtain ⟨q, hq, rfl, rfl⟩ := hrel
            by_cases hlq : q < N
            · obtain ⟨bi, oi, rfl, RI⟩ := I5.out.rowN (by omega)
              have c0 := RI q hlq
              clear RI
              have CS := hid (cnt_succ (l := pids l N) (x := i0) (q := q) (by rw [PL.out]; exact hlq))
              have cb := cnt_le (pids l N) i0 q
              have qa' : (0 : Int) ≤ (q : Int) := by omega
              have qb : (q : Int) < (N : Int) := by omega
              have hwq : IntKind.i64.wrap (cnt (pids l N) i0 q + 1) = cnt (pids l N) i0 q + 1 := by rw [IntKind.wrap_i64]; omega
              by_cases he : (pids l N)[q]?.getD 0 = i0
              · have CS2 : Hid (cnt (pids l N) i0 (q + 1) = cnt (pids l N) i0 q + 1) := by rw [CS.out, if_pos he]; exact rfl
                have te : ((pids l N)[q]?.getD 0 == i0) = true := by simpa using he
                clear he CS cb
                generalize (pids l N)[q]?.getD 0 = y at *
                generalize cnt (pids l N) i0 q = cv at *
                go_wp2
                go_round
                case rel => exact ⟨q + 1, by omega, by rw [CS2.out], by go_num⟩
                case measure => simp [intOf]; omega
              · have CS2 : Hid (cnt (pids l N) i0 (q + 1) = cnt (pids l N) i0 q) := by unfold Hid; rw [CS.out, if_neg he]; omega
                have te : ((pids l N)[q]?.getD 0 == i0) = false := by simpa using he
                clear he CS cb
                generalize (pids l N)[q]?.getD 0 = y at *
                generalize cnt (pids l N) i0 q = cv at *
                go_wp2
                go_round
                case rel => exact ⟨q + 1, by omega, by rw [CS2.out], by go_num⟩
                case measure => simp [intOf]; omega
            · have qn : q = N := by omega
              subst qn
              rw [CT.out]
              go_wp2
              go_roundw
              case rel => exact ⟨i + 1, by omega, by go_num, B6⟩
              case measure => simp [intOf]; omega
        · have ik : i = k := by omega
          subst ik
          have G6 := hid (G4.out.below hB.out)
          have B6 := hid (B4.out.trans (hB.out.mono B4.out.size))
          have GPL := GP.out.len
          clear hB
          go_wp2_with fail
          refine (list_any gb r _ wi G6.out GPL).mono ?_
          rintro e wd8 ⟨v8, rfl, o8, b8⟩
          rw [PKL.out] at o8
          obtain ⟨a8, c8, rfl⟩ := o8.form
          have J8 := hid (o8.holds Cl.cs_len)
          have B8 := hid (B6.out.trans (b8.mono B6.out.size))
          clear o8 b8
          go_wp2_with fail
          go_loopw [18, 109] (fun u v wx => ∃ j : Nat, j ≤ i ∧ u = .int .i64 (lmin (pks l N) j) ∧ v = .int .i64 (j : Int) ∧ Hid (Below wd8.heap.size wd8 wx)) (fun _ v _ => i - (intOf v).toNat)
          case atStart => exact ⟨0, by omega, rfl, rfl, Below.refl _ _⟩
          case round =>
            rename World => wx
            obtain ⟨j, hj, rfl, rfl, hB⟩ := hrel
            by_cases hlj : j < i
            · obtain ⟨bb, ob, rfl, _, RB⟩ := J8.out.rowC (by omega)
              obtain ⟨y0, y1, y2⟩ := RB j hlj
              replace y0 := keepc hB.out y0
              replace y1 := keepc hB.out y1
              replace y2 := keepc hB.out y2
              clear RB
              have ka : (0 : Int) ≤ (j : Int) := by omega
              have kb : (j : Int) < (i : Int) := by omega
              obtain ⟨_, tk1, tk2, pa, pb⟩ := GP.out.rng j (by rw [PKL.out]; exact hlj)
              have LS : Hid (lmin (pks l N) (j + 1) = if (ca (pks l N) j).ps < lmin (pks l N) j then (ca (pks l N) j).ps else lmin (pks l N) j) := rfl
              have hd := stv_tdiv tk1 tk2
              have sp := stv_pos tk1 tk2
              have hz : ¬ ((ca (pks l N) j).tk = 0) := by omega
              generalize (ca (pks l N) j).id = i0 at *
              generalize (ca (pks l N) j).tk = i1 at *
              generalize (ca (pks l N) j).ps = i2 at *
              generalize stv i1 = sv at *
              have hw : IntKind.i64.wrap sv = sv := by rw [IntKind.wrap_i64]; omega
              have td1 : decide (i2 < 0) = false := by simp; omega
              have td2 : decide (sv < i2) = false := by simp; omega
              have B9 : Hid (Below wd8.heap.size wd8 (wx.alloc (.cells #[.int .i64 i0, .int .i64 i1, .int .i64 i2] 41))) := hB.out.alloc hB.out.size _
              have u1 : (wx.alloc (.cells #[.int .i64 i0, .int .i64 i1, .int .i64 i2] 41)).cell? ⟨wx.heap.size, 1, none⟩ = some (.int .i64 i1) := by simp [go_sem]
              have u2 : (wx.alloc (.cells #[.int .i64 i0, .int .i64 i1, .int .i64 i2] 41)).cell? ⟨wx.heap.size, 2, none⟩ = some (.int .i64 i2) := by simp [go_sem]
              generalize lmin (pks l N) j = lm at *
              clear tk1 tk2 pa pb sp
              go_wp2_with fail
              all_goals
                go_quiet (fail)
                go_wp2
                go_roundw
                case rel => exact ⟨j + 1, by omega, by rw [LS.out]; split <;> (first | rfl | (congr 1; omega)), by go_num, below_drewN B9.out _⟩
                case measure => simp [intOf]; omega
            · have jn : j = i := by omega
              subst jn
              rw [LM.out]
              have B9 := hid (B8.out.trans (hB.out.mono B8.out.size))
              go_wp2
              go_ret
              exact ⟨rfl, B9.out⟩

set_option maxRecDepth 100000 in
set_option maxHeartbeats 16000000 in
theorem walk_hi (a0 : Option Addr) (len0 cap0 : Nat) (z0 : List Oc) (a1 : Int) (w : World) (w0 : HoldsO w a0 len0 cap0 z0) (k0 : ∀ o ∈ z0, o.ok) (t1 : decide (a1 < 0) = false) (t2 : decide (3000 < a1) = true) :
    Calls Try.prog 4 #[.slice a0 len0 cap0, .int .i64 a1] w fun e w' => e = .returned (.bool true) ∧ Below w.heap.size w w' := by
  have HH := hid w0
  have KK := hid k0
  have GM := Gr.made k0
  clear w0 k0
  obtain ⟨N, hN0⟩ : ∃ N : Nat, (100 : Int) = (N : Int) := ⟨100, rfl⟩
  have hN : N ≤ 3000 := by omega
  go_enter Try.func4, Try.ntmps4
  go_wp2_with fail
  refine (awake9_any w).mono ?_
  rintro e wd1 ⟨rfl, b1⟩
  have B1 := hid b1
  clear b1
  go_wp2_with fail
  refine (made_any a0 len0 cap0 z0 wd1 (HH.out.below B1.out) KK.out).mono ?_
  rintro e wd2 ⟨gb, r, rfl, g2, hg2, hr2, b2⟩
  have G2 := hid g2
  have B2 := hid (B1.out.trans (b2.mono B1.out.size))
  have hs1 := B1.out.size
  clear b2 g2
  have HL := GM.len
  have GR := hid GM
  generalize hml : madeM z0 = l at *
  clear hml HH KK
  clear GM
  obtain ⟨n, hn⟩ : ∃ n, l.length = n := ⟨_, rfl⟩
  have HN := hid hn
  go_wp2_with fail
  refine (list_any gb r l wd2 G2.out HL).mono ?_
  rintro e wd3 ⟨v3, rfl, o3, b3⟩
  rw [hn] at o3
  obtain ⟨a3, c3, rfl⟩ := o3.form
  have B3 := hid (B2.out.trans (b3.mono B2.out.size))
  have G3 := hid (G2.out.below b3)
  have K3 := hid (o3.holds Cl.cs_len)
  have hs2 := b3.size
  have hs02 := B2.out.size
  obtain ⟨hgl, hrl⟩ := G2.out.lt
  have KB : Hid (∀ x o, a3 = some ⟨x, o, none⟩ → 0 < n → x ≠ gb ∧ x ≠ r) := by
    intro x o e h
    have := (o3.lt x (by rw [e]; rfl)).1
    omega
  clear b3 o3
  by_cases hz : n = 0
  · have tz : ((n : Int) == 0) = true := by simp [hz]
    clear hz
    go_wp2
    go_ret
    exact ⟨rfl, B3.out⟩
  have tz : ((n : Int) == 0) = false := by simpa using (by omega : ¬ (n : Int) = 0)
  have hp : 0 < l.length := by omega
  have RN := hid (fun W r (h : Grp W gb r l) => run_any gb r l (N : Int) W h GR.out)
  obtain ⟨e1, e2, e3⟩ := runE_ok (l := l) (n := N) (by omega) (fun _ => hp)
  skip
  rw [e1, e2, e3, pids_len] at RN
  clear e1 e2 e3 hz
  have tnn : ((N : Int) != (N : Int)) = false := by simp
  go_wp2_with fail
  refine (RN.out wd3 r G3.out).mono ?_
  rintro e wd4 ⟨v4, rfl, o4, g4, t4⟩
  have G4 := hid g4
  have K4 := hid (t4.holds K3.out KB.out)
  have B4 := hid (B3.out.trans (t4.below (by omega) (by omega) B3.out.size))
  obtain ⟨a4, c4, rfl⟩ := o4.form
  have I4 := hid (o4.holds encN_len)
  have GP := hid (GR.out.pks hp N)
  have CN : Hid (∀ i, i < n → ((pids l N).count (ca l i).id : Int) = had l N i) := fun i hi => pids_count GR.out hp N (by rw [HN.out]; exact hi)
  have FA : Hid (∀ i, i < n → -(tks l * ((n : Int) - 1)) ≤ had l N i * tks l - (N : Int) * (ca l i).tk ∧ had l N i * tks l - (N : Int) * (ca l i).tk ≤ tks l * ((n : Int) - 1)) := fun i hi => by
    have := fair GR.out N (i := i) (by rw [HN.out]; exact hi)
    rw [HN.out] at this
    exact this
  have TB : Hid (∀ k, k ≤ n → 0 ≤ sm (fun i => (ca l i).tk) k ∧ sm (fun i => (ca l i).tk) k ≤ 16 * k) := fun k hk => tks_bound GR.out (by rw [HN.out]; exact hk)
  have TK : Hid (sm (fun i => (ca l i).tk) n = tks l) := by unfold Hid tks; rw [HN.out]
  have PL : Hid ((pids l N).length = N) := pids_len _ _
  have LM : Hid (lmin (pks l N) n = 0) := by
    have := lmin_zero GP.out (by rw [pks_len]; exact hp)
    rwa [pks_len, HN.out] at this
  have PKL : Hid ((pks l N).length = n) := by unfold Hid; rw [pks_len, HN.out]
  clear o4 g4 t4 RN G3 K3
  go_wp2_with fail
  go_loopw [9, 52] (fun u v wr => ∃ k : Nat, k ≤ n ∧ u = .int .i64 (sm (fun i => (ca l i).tk) k) ∧ v = .int .i64 (k : Int) ∧ Hid (Below wd4.heap.size wd4 wr)) (fun _ v _ => n - (intOf v).toNat)
  case atStart => exact ⟨0, by omega, rfl, rfl, Below.refl _ _⟩
  case round =>
    obtain ⟨k, hk, rfl, rfl, hB⟩ := hrel
    by_cases hlt : k < n
    · obtain ⟨ba, oa', rfl, _, RA⟩ := K4.out.rowC (by omega)
      obtain ⟨x0, x1, x2⟩ := RA k hlt
      replace x0 := keepc hB.out x0
      replace x1 := keepc hB.out x1
      replace x2 := keepc hB.out x2
      clear RA
      have ka : (0 : Int) ≤ (k : Int) := by omega
      have kb : (k : Int) < (n : Int) := by omega
      have bd1 := TB.out (k + 1) (by omega)
      have SU : Hid (sm (fun i => (ca l i).tk) (k + 1) = sm (fun i => (ca l i).tk) k + (ca l k).tk) := rfl
      rw [SU.out] at bd1
      have hw : IntKind.i64.wrap (sm (fun i => (ca l i).tk) k + (ca l k).tk) = sm (fun i => (ca l i).tk) k + (ca l k).tk := by rw [IntKind.wrap_i64]; omega
      generalize (ca l k).id = i0 at *
      generalize (ca l k).tk = i1 at *
      generalize (ca l k).ps = i2 at *
      generalize hsk : sm (fun i => (ca l i).tk) k = sk1 at *
      have B5 : Hid (Below wd4.heap.size wd4 (wr.alloc (.cells #[.int .i64 i0, .int .i64 i1, .int .i64 i2] 41))) := hB.out.alloc hB.out.size _
      clear bd1 hsk
      go_wp2
      go_roundw
      case rel => exact ⟨k + 1, by omega, by rw [SU.out], by go_num, B5⟩
      case measure => simp [intOf]; omega
    · have kn : k = n := by omega
      subst kn
      rw [TK.out]
      have bT := TB.out k (Nat.le_refl _)
      rw [TK.out] at bT
      have B5 := hid hB.out
      clear hB TB TK
      generalize tks l = T at *
      go_wp2_with fail
      go_loopw [63] (fun v wr' => ∃ i : Nat, i ≤ k ∧ v = .int .i64 (i : Int) ∧ Hid (Below wd4.heap.size wd4 wr')) (fun v _ => k - (intOf v).toNat)
      case atStart => exact ⟨0, by omega, rfl, B5.out⟩
      case round =>
        rename World => wi
        obtain ⟨i, hi, rfl, hB⟩ := hrel
        by_cases hlt2 : i < k
        · obtain ⟨ba, oa', rfl, _, RA⟩ := K4.out.rowC (by omega)
          obtain ⟨x0, x1, x2⟩ := RA i hlt2
          replace x0 := keepc hB.out x0
          replace x1 := keepc hB.out x1
          replace x2 := keepc hB.out x2
          clear RA
          have ka : (0 : Int) ≤ (i : Int) := by omega
          have kb : (i : Int) < (k : Int) := by omega
          have hil : i < l.length := by rw [HN.out]; exact hlt2
          obtain ⟨_, tk1, tk2, _, _⟩ := GR.out.rng i hil
          have cq := CN.out i hlt2
          have fq := FA.out i hlt2
          have CT : Hid (cnt (pids l N) (ca l i).id N = had l N i) := by
            unfold Hid cnt
            rw [List.take_of_length_le (by rw [PL.out]; exact Nat.le_refl _)]; exact cq
          have hb := cnt_le (pids l N) (ca l i).id N
          rw [CT.out] at hb
          generalize had l N i = Hh at *
          generalize hI0 : (ca l i).id = i0 at *
          generalize (ca l i).tk = i1 at *
          generalize (ca l i).ps = i2 at *
          obtain ⟨P1, hP⟩ : ∃ x, Hh * T = x := ⟨_, rfl⟩
          obtain ⟨Q1, hQ⟩ : ∃ x, (N : Int) * i1 = x := ⟨_, rfl⟩
          obtain ⟨R1, hR⟩ : ∃ x, T * ((k : Int) - 1) = x := ⟨_, rfl⟩
          rw [hP, hQ, hR] at fq
          have bP : 0 ≤ P1 ∧ P1 ≤ 3000 * 16384 := by
            rw [← hP]
            exact ⟨Int.mul_nonneg hb.1 bT.1, Int.mul_le_mul (by omega) (by omega) bT.1 (by omega)⟩
          have bQ : 0 ≤ Q1 ∧ Q1 ≤ 3000 * 16 := by
            rw [← hQ]
            exact ⟨Int.mul_nonneg (by omega) (by omega), Int.mul_le_mul (by omega) tk2 (by omega) (by omega)⟩
          have bR : 0 ≤ R1 ∧ R1 ≤ 16384 * 1024 := by
            rw [← hR]
            exact ⟨Int.mul_nonneg bT.1 (by omega), Int.mul_le_mul (by omega) (by omega) (by omega) (by omega)⟩
          have hw1 : IntKind.i64.wrap P1 = P1 := by rw [IntKind.wrap_i64]; omega
          have hw2 : IntKind.i64.wrap Q1 = Q1 := by rw [IntKind.wrap_i64]; omega
          have hw3 : IntKind.i64.wrap (P1 - Q1) = P1 - Q1 := by rw [IntKind.wrap_i64]; omega
          have hw4 : IntKind.i64.wrap ((k : Int) - 1) = (k : Int) - 1 := by rw [IntKind.wrap_i64]; omega
          have hw5 : IntKind.i64.wrap R1 = R1 := by rw [IntKind.wrap_i64]; omega
          have hw6 : IntKind.i64.wrap (-(P1 - Q1)) = -(P1 - Q1) := by rw [IntKind.wrap_i64]; omega
          have td1 : decide (R1 < P1 - Q1) = false := by simp; omega
          have td2 : decide (R1 < -(P1 - Q1)) = false := by simp; omega
          have hQc := hQ
          have B6 : Hid (Below wd4.heap.size wd4 (wi.alloc (.cells #[.int .i64 i0, .int .i64 i1, .int .i64 i2] 41))) := hB.out.alloc hB.out.size _
          have I5 := hid (I4.out.below B6.out)
          have y0 : (wi.alloc (.cells #[.int .i64 i0, .int .i64 i1, .int .i64 i2] 41)).cell? ⟨wi.heap.size, 0, none⟩ = some (.int .i64 i0) := by simp [go_sem]
          have y1 : (wi.alloc (.cells #[.int .i64 i0, .int .i64 i1, .int .i64 i2] 41)).cell? ⟨wi.heap.size, 1, none⟩ = some (.int .i64 i1) := by simp [go_sem]
          clear fq bP bQ bR cq tk1 tk2 hI0 hb CN FA hB
          go_wp2_with fail
          generalize (wi.alloc (.cells #[.int .i64 i0, .int .i64 i1, .int .i64 i2] 41)) = W6 at *
          go_loop [14, 69] (fun u v => ∃ q : Nat, q ≤ N ∧ u = .int .i64 (cnt (pids l N) i0 q) ∧ v = .int .i64 (q : Int)) (fun _ v => N - (intOf v).toNat)
          case atStart => exact ⟨0, by omega, rfl, rfl⟩
          case round =>
            obtain ⟨q, hq, rfl, rfl⟩ := hrel
            by_cases hlq : q < N
            · obtain ⟨bi, oi, rfl, RI⟩ := I5.out.rowN (by omega)
              have c0 := RI q hlq
              clear RI
              have CS := hid (cnt_succ (l := pids l N) (x := i0) (q := q) (by rw [PL.out]; exact hlq))
              have cb := cnt_le (pids l N) i0 q
              have qa' : (0 : Int) ≤ (q : Int) := by omega
              have qb : (q : Int) < (N : Int) := by omega
              have hwq : IntKind.i64.wrap (cnt (pids l N) i0 q + 1) = cnt (pids l N) i0 q + 1 := by rw [IntKind.wrap_i64]; omega
              by_cases he : (pids l N)[q]?.getD 0 = i0
              · have CS2 : Hid (cnt (pids l N) i0 (q + 1) = cnt (pids l N) i0 q + 1) := by rw [CS.out, if_pos he]; exact rfl
                have te : ((pids l N)[q]?.getD 0 == i0) = true := by simpa using he
                clear he CS cb
                generalize (pids l N)[q]?.getD 0 = y at *
                generalize cnt (pids l N) i0 q = cv at *
                go_wp2
                go_round
                case rel => exact ⟨q + 1, by omega, by rw [CS2.out], by go_num⟩
                case measure => simp [intOf]; omega
              · have CS2 : Hid (cnt (pids l N) i0 (q + 1) = cnt (pids l N) i0 q) := by unfold Hid; rw [CS.out, if_neg he]; omega
                have te : ((pids l N)[q]?.getD 0 == i0) = false := by simpa using he
                clear he CS cb
                generalize (pids l N)[q]?.getD 0 = y at *
                generalize cnt (pids l N) i0 q = cv at *
                go_wp2
                go_round
                case rel => exact ⟨q + 1, by omega, by rw [CS2.out], by go_num⟩
                case measure => simp [intOf]; omega
            · have qn : q = N := by omega
              subst qn
              rw [CT.out]
              go_wp2
              go_roundw
              case rel => exact ⟨i + 1, by omega, by go_num, B6⟩
              case measure => simp [intOf]; omega
        · have ik : i = k := by omega
          subst ik
          have G6 := hid (G4.out.below hB.out)
          have B6 := hid (B4.out.trans (hB.out.mono B4.out.size))
          have GPL := GP.out.len
          clear hB
          go_wp2_with fail
          refine (list_any gb r _ wi G6.out GPL).mono ?_
          rintro e wd8 ⟨v8, rfl, o8, b8⟩
          rw [PKL.out] at o8
          obtain ⟨a8, c8, rfl⟩ := o8.form
          have J8 := hid (o8.holds Cl.cs_len)
          have B8 := hid (B6.out.trans (b8.mono B6.out.size))
          clear o8 b8
          go_wp2_with fail
          go_loopw [18, 109] (fun u v wx => ∃ j : Nat, j ≤ i ∧ u = .int .i64 (lmin (pks l N) j) ∧ v = .int .i64 (j : Int) ∧ Hid (Below wd8.heap.size wd8 wx)) (fun _ v _ => i - (intOf v).toNat)
          case atStart => exact ⟨0, by omega, rfl, rfl, Below.refl _ _⟩
          case round =>
            rename World => wx
            obtain ⟨j, hj, rfl, rfl, hB⟩ := hrel
            by_cases hlj : j < i
            · obtain ⟨bb, ob, rfl, _, RB⟩ := J8.out.rowC (by omega)
              obtain ⟨y0, y1, y2⟩ := RB j hlj
              replace y0 := keepc hB.out y0
              replace y1 := keepc hB.out y1
              replace y2 := keepc hB.out y2
              clear RB
              have ka : (0 : Int) ≤ (j : Int) := by omega
              have kb : (j : Int) < (i : Int) := by omega
              obtain ⟨_, tk1, tk2, pa, pb⟩ := GP.out.rng j (by rw [PKL.out]; exact hlj)
              have LS : Hid (lmin (pks l N) (j + 1) = if (ca (pks l N) j).ps < lmin (pks l N) j then (ca (pks l N) j).ps else lmin (pks l N) j) := rfl
              have hd := stv_tdiv tk1 tk2
              have sp := stv_pos tk1 tk2
              have hz : ¬ ((ca (pks l N) j).tk = 0) := by omega
              generalize (ca (pks l N) j).id = i0 at *
              generalize (ca (pks l N) j).tk = i1 at *
              generalize (ca (pks l N) j).ps = i2 at *
              generalize stv i1 = sv at *
              have hw : IntKind.i64.wrap sv = sv := by rw [IntKind.wrap_i64]; omega
              have td1 : decide (i2 < 0) = false := by simp; omega
              have td2 : decide (sv < i2) = false := by simp; omega
              have B9 : Hid (Below wd8.heap.size wd8 (wx.alloc (.cells #[.int .i64 i0, .int .i64 i1, .int .i64 i2] 41))) := hB.out.alloc hB.out.size _
              have u1 : (wx.alloc (.cells #[.int .i64 i0, .int .i64 i1, .int .i64 i2] 41)).cell? ⟨wx.heap.size, 1, none⟩ = some (.int .i64 i1) := by simp [go_sem]
              have u2 : (wx.alloc (.cells #[.int .i64 i0, .int .i64 i1, .int .i64 i2] 41)).cell? ⟨wx.heap.size, 2, none⟩ = some (.int .i64 i2) := by simp [go_sem]
              generalize lmin (pks l N) j = lm at *
              clear tk1 tk2 pa pb sp
              go_wp2_with fail
              all_goals
                go_quiet (fail)
                go_wp2
                go_roundw
                case rel => exact ⟨j + 1, by omega, by rw [LS.out]; split <;> (first | rfl | (congr 1; omega)), by go_num, below_drewN B9.out _⟩
                case measure => simp [intOf]; omega
            · have jn : j = i := by omega
              subst jn
              rw [LM.out]
              have B9 := hid (B8.out.trans (hB.out.mono B8.out.size))
              go_wp2
              go_ret
              exact ⟨rfl, B9.out⟩

theorem walk (a0 : Option Addr) (len0 cap0 : Nat) (z0 : List Oc) (a1 : Int) (w : World) (w0 : HoldsO w a0 len0 cap0 z0) (k0 : ∀ o ∈ z0, o.ok) (w1 : I64 a1) :
    Calls Try.prog 4 #[.slice a0 len0 cap0, .int .i64 a1] w fun e w' => e = .returned (.bool true) ∧ Below w.heap.size w w' := by
  by_cases h1 : a1 < 0
  · exact walk_lo a0 len0 cap0 z0 a1 w w0 k0 (by simpa using h1)
  · by_cases h2 : 3000 < a1
    · exact walk_hi a0 len0 cap0 z0 a1 w w0 k0 (by simpa using h1) (by simpa using h2)
    · obtain ⟨N, rfl⟩ : ∃ N : Nat, a1 = N := ⟨a1.toNat, by omega⟩
      exact walk_in a0 len0 cap0 z0 w w0 k0 N (by omega)

theorem own : ownKnob Try.prog.godebug = none := by kernel_rfl
theorem laidOut : laidOutB Try.prog = true := by kernel_rfl

set_option maxRecDepth 100000 in
theorem lifted (os : Os) (started : os.Started) (H : Type) (enc : TypeId × Value → H) :
    ReturnsInHanded {} Try.checked os 4 .any (Rows.strideFairSpec.pre6 enc Try.prog Try.f4 Rows.strideFairRow.domain false) (Rows.strideFairSpec.post enc Try.prog Try.f4 false true false false) := by
  refine returnsInHanded_of_change (C := Try.checked) own started (by kernel_rfl) Try.func4
    (ChangeSpec.witness6 (enc := enc) (C := Try.checked) false ⟨#[], #[.slice none 0 0, .int .i64 0], []⟩ 8 (by kernel_rfl) (by kernel_rfl) (by kernel_rfl) (by kernel_rfl)) ?_
  intro W base args ds gs before hval0 hW hcnd _
  have hval : ∀ (j : Nat) t v, Try.f4.params[j]? = some t → args[j]? = some v → Value.okWide Try.prog W .any base t v := hval0
  have hW' := hW
  obtain ⟨p, q, hA0, hV, rfl, hfz, hnd⟩ := hW
  have hA : DataW.TrodAll enc Try.prog W 0 (fun _ => true) true Try.f4.params.toList args.toList ds p := hA0
  rw [Try.params4] at hA hval
  obtain ⟨v0, vs0, d0, ds0, p0, q0, hargs, rfl, rfl, h0, r0⟩ := trodAll_cons hA
  obtain ⟨v1, vs1, d1, ds1, p1, q1, rfl, rfl, rfl, h1, r1⟩ := trodAll_cons r0
  obtain ⟨rfl, rfl, rfl⟩ := trodAll_nil r1
  obtain rfl : args = #[v0, v1] := by cases args; simp_all
  obtain ⟨rfl, rfl⟩ := trodVars_none hV
  have lt0 : ∀ x ∈ p0, x.block < W.heap.size := by obtain ⟨m, hm⟩ := h0; exact DataW.trod_lt m _ _ _ hm
  have lt1 : ∀ x ∈ p1, x.block < W.heap.size := by obtain ⟨m, hm⟩ := h1; exact DataW.trod_lt m _ _ _ hm
  obtain ⟨a0, len0, cap0, rfl⟩ := okWide_slice Try.underlying22 (hval 0 22 v0 rfl rfl)
  obtain ⟨z0, w0, k0, dr0⟩ := val_rowE (k := 5) (en := Oc.cs) (ok := Oc.ok) Try.underlying22 (by kernel_rfl) Oc.cs_len (by decide) (fun _ _ _ h => trod_op h) h0
  obtain ⟨a1, rfl, w1⟩ := val_i64 Try.underlying3 (hval 1 3 v1 rfl rfl) h1
  clear hA0 hval0
  refine (walk a0 len0 cap0 z0 a1 W w0 k0 w1).mono fun e W' ⟨he, bel⟩ => ?_
  subst he
  exact ⟨_, rfl, _, _, _, [], _, [], hW', trodAll_mk1 (shut_bool Try.underlying4 _), (trodAll_cons_mk (Below.trod laidOut (by kernel_rfl) (of_decide_eq_true (by kernel_rfl)) h0 bel lt0) (trodAll_cons_mk (Below.trod laidOut (by kernel_rfl) (of_decide_eq_true (by kernel_rfl)) h1 bel lt1) trodAll_mk0)), rfl, bel.frame _, fun h => by cases h⟩

theorem over : Rows.strideFairRow.holds Try.pinned (OpenSpec.ofChange Rows.strideFairSpec) :=
  OpenClaim.holds_of_wide 4 Try.f4 rfl rfl rfl rfl rfl rfl rfl ⟨rfl, rfl, rfl, rfl, rfl⟩ rfl rfl rfl rfl rfl (by kernel_rfl) Try.func4 (by kernel_rfl)
    (of_decide_eq_true (by kernel_rfl)) (by unfold Func.isWrapper; first | (rw [if_pos (by decide +kernel)]; kernel_rfl) | (rw [if_neg (by decide +kernel)]; exact ⟨rfl, rfl⟩))
    (fun os started H enc _ => lifted os started H enc)

theorem proved : Rows.StrideFairSaid := over
#print axioms proved
end Go.Proofs.Ytdenhpclopjjgaa.strideFair
