/- StrideRounds: for every list of numbers the law answers true, and the list reads as it did. No further conditions. -/
import Derived.Test.YtdenhpclopjjgaaGP
namespace Go.Proofs.Ytdenhpclopjjgaa.strideRounds
open Go.ChangeShapes Go.WideShapes Go.ChangeAt Go.RowKit Go.Deep Go.Maps
set_option linter.unusedVariables false
set_option linter.unusedSimpArgs false

theorem sm_lt {f g : Nat → Int} {k : Nat} (h : sm f k < sm g k) : ∃ i, i < k ∧ f i < g i := by
  apply Classical.byContradiction
  intro hn
  have : sm g k ≤ sm f k := sm_le (fun i hi => by
    rcases Int.lt_or_le (f i) (g i) with h1 | h1
    · exact absurd ⟨i, hi, h1⟩ hn
    · exact h1)
  omega
theorem sm_eq {f g : Nat → Int} {k : Nat} (h : ∀ i, i < k → f i ≤ g i) (e : sm f k = sm g k) : ∀ i, i < k → f i = g i := by
  intro i hi
  have h1 := sm_one (f := f) hi
  have h2 := sm_one (f := g) hi
  have h3 : sm (fun j => if j = i then 0 else f j) k ≤ sm (fun j => if j = i then 0 else g j) k := sm_le (fun j hj => by
    split
    · exact Int.le_refl _
    · exact h j hj)
  have := h i hi
  omega
/-- All begin at nought: within one round of all tickets none gets more than its own. -/
theorem had_le {l : List Cl} (hg : Gr l) (h0 : ∀ i, i < l.length → (ca l i).ps = 0) (hp : 0 < l.length) (T : Nat) (hT : (T : Int) = tks l) : ∀ n, n ≤ T → ∀ i, i < l.length → had l n i ≤ (ca l i).tk := by
  intro n
  induction n with
  | zero =>
    intro _ i hi
    obtain ⟨_, a, _⟩ := hg.rng i hi
    have : had l 0 i = 0 := rfl
    omega
  | succ n ih =>
    intro hn i hi
    have ih := ih (by omega)
    rw [had_succ]
    split
    · rename_i hb
      have hs := had_sum hp n
      have hlt : sm (had l n) l.length < sm (fun j => (ca l j).tk) l.length := by
        rw [hs]
        have : tks l = sm (fun j => (ca l j).tk) l.length := rfl
        omega
      obtain ⟨j, hj, hjl⟩ := sm_lt hlt
      obtain ⟨S, hS⟩ := pks_pass (l := l) n
      have hb' : bs (pks l n) < (pks l n).length := bs_lt (by rw [pks_len]; exact hp)
      have hlow := nx_low (pks l n) (pks l n).length j (by rw [pks_len]; exact hj)
      have e1 : nx (pks l n) (pks l n).length = i := hb
      rw [e1, hS i hi, hS j hj, h0 i hi, h0 j hj] at hlow
      obtain ⟨_, a1, a2, _⟩ := hg.rng i hi
      obtain ⟨_, b1, b2, _⟩ := hg.rng j hj
      have m1 := stv_mul a1 a2
      have m2 := stv_mul b1 b2
      have p1 := stv_pos a1 a2
      have p2 := stv_pos b1 b2
      have q2 : had l n j * stv (ca l j).tk ≤ ((ca l j).tk - 1) * stv (ca l j).tk := Int.mul_le_mul_of_nonneg_right (by omega) (by omega)
      rw [Int.sub_mul, m2] at q2
      rcases Int.lt_or_le (had l n i) (ca l i).tk with h1 | h1
      · omega
      · have q1 : (ca l i).tk * stv (ca l i).tk ≤ had l n i * stv (ca l i).tk := Int.mul_le_mul_of_nonneg_right h1 (by omega)
        rw [m1] at q1
        omega
    · have := ih i hi
      omega
theorem had_eq {l : List Cl} (hg : Gr l) (h0 : ∀ i, i < l.length → (ca l i).ps = 0) (hp : 0 < l.length) (T : Nat) (hT : (T : Int) = tks l) : ∀ i, i < l.length → had l T i = (ca l i).tk :=
  sm_eq (had_le hg h0 hp T hT T (Nat.le_refl _)) (by rw [had_sum hp]; exact hT)
theorem pks_round {l : List Cl} (hg : Gr l) (h0 : ∀ i, i < l.length → (ca l i).ps = 0) (hp : 0 < l.length) (T : Nat) (hT : (T : Int) = tks l) : pks l T = l := by
  obtain ⟨S, hS⟩ := pks_pass (l := l) T
  have he := had_eq hg h0 hp T hT
  have hq := hg.pks hp T
  have hl := hq.low (by rw [pks_len]; exact hp)
  have hb : bs (pks l T) < l.length := by have := bs_lt (l := pks l T) (by rw [pks_len]; exact hp); rwa [pks_len] at this
  have hall : ∀ i, i < l.length → (ca (pks l T) i).ps = 720720 - S := fun i hi => by
    rw [hS i hi, h0 i hi, he i hi]
    obtain ⟨_, a, b, _⟩ := hg.rng i hi
    rw [stv_mul a b]; omega
  have hz : 720720 - S = 0 := by rw [← hall _ hb]; exact hl
  refine ca_ext (pks_len l T) (fun i hi => ?_)
  rw [pks_len] at hi
  have h1 := pks_same (l := l) T hi
  have h2 := hall i hi
  have h3 := h0 i hi
  rw [hz] at h2
  generalize ca (pks l T) i = x at *
  generalize ca l i = y at *
  obtain ⟨x1, x2, x3⟩ := x
  obtain ⟨y1, y2, y3⟩ := y
  simp only at h1 h2 h3
  obtain ⟨rfl, rfl⟩ := h1
  subst h2 h3
  rfl

/-- The clients behind k joins. -/
def gl (ts : List Int) (k : Nat) : List Cl := (List.range k).map (fun j : Nat => (⟨(j : Int), ts[j]?.getD 0, 0⟩ : Cl))
theorem gl_len (ts : List Int) (k : Nat) : (gl ts k).length = k := by simp [gl]
theorem ca_gl {ts : List Int} {k i : Nat} (h : i < k) : ca (gl ts k) i = ⟨(i : Int), ts[i]?.getD 0, 0⟩ := by
  unfold gl ca
  rw [List.getElem?_map, List.getElem?_range h]; rfl
theorem gl_gr {ts : List Int} {k : Nat} (hk : k ≤ 100) (h : ∀ i, i < k → 1 ≤ ts[i]?.getD 0 ∧ ts[i]?.getD 0 ≤ 16) : Gr (gl ts k) := by
  refine ⟨by rw [gl_len]; omega, fun i j hij hj => ?_, fun i hi => ?_, fun hp => ?_⟩
  · rw [gl_len] at hj
    rw [ca_gl hj, ca_gl (by omega)]
    simp only; omega
  · rw [gl_len] at hi
    rw [ca_gl hi]
    have := h i hi
    have := stv_pos this.1 this.2
    exact ⟨by unfold I64; simp only; omega, (h i hi).1, (h i hi).2, Int.le_refl 0, by simp only; omega⟩
  · rw [gl_len] at hp
    refine low_eq (m := 0) (fun i hi => ?_) (j := 0) (by rw [gl_len]; exact hp) ?_
    · rw [gl_len] at hi
      rw [ca_gl hi]; exact Int.le_refl 0
    · rw [ca_gl hp]
theorem gl_join {ts : List Int} {k : Nat} (hk : k < 100) (h : ∀ i, i < k + 1 → 1 ≤ ts[i]?.getD 0 ∧ ts[i]?.getD 0 ≤ 16) : joinE (gl ts k) (k : Int) (ts[k]?.getD 0) 0 = 0 ∧ joinM (gl ts k) (k : Int) (ts[k]?.getD 0) 0 = gl ts (k + 1) := by
  have hg := gl_gr (k := k) (by omega) (fun i hi => h i (by omega))
  have hsk : sk (gl ts k) (k : Int) = k := sk_eq (by rw [gl_len]; exact Nat.le_refl _) (fun i hi => by rw [ca_gl hi]; simp only; omega) (fun hi => by rw [gl_len] at hi; omega)
  have hn : hs (gl ts k) (k : Int) = false := by
    unfold hs
    rw [hsk, gl_len]
    simp
  have ht := h k (by omega)
  have sp := stv_pos ht.1 ht.2
  obtain ⟨e1, e2⟩ := joinE_ok (l := gl ts k) (id := (k : Int)) (t := ts[k]?.getD 0) (r := 0) hn (by unfold tkOk; simp [ht.1, ht.2]) (Int.le_refl 0) (by omega) (by rw [gl_len]; omega)
  refine ⟨e1, ?_⟩
  rw [e2, hsk]
  have hi : insC (gl ts k) k ⟨(k : Int), ts[k]?.getD 0, 0⟩ = gl ts (k + 1) := by
    have h1 := insC_end (gl ts k) ⟨(k : Int), ts[k]?.getD 0, 0⟩
    rw [gl_len] at h1
    rw [h1]
    unfold gl
    rw [List.range_succ, List.map_append]; rfl
  rw [hi]
  exact lev_zero ((gl_gr (k := k + 1) (by omega) h).low (by rw [gl_len]; omega))
/-- The Ids that are told are places. -/
theorem pids_range {ts : List Int} {n T : Nat} (hp : 0 < n) {q : Nat} (hq : q < T) : ∃ i : Nat, i < n ∧ (pids (gl ts n) T)[q]?.getD 0 = (i : Int) := by
  unfold pids
  rw [List.getElem?_map, List.getElem?_range hq]
  have hb : bs (pks (gl ts n) q) < n := by
    have := bs_lt (l := pks (gl ts n) q) (by rw [pks_len, gl_len]; exact hp)
    rwa [pks_len, gl_len] at this
  refine ⟨bs (pks (gl ts n) q), hb, ?_⟩
  show pid (pks (gl ts n) q) = _
  have := (pks_same (l := gl ts n) q (i := bs (pks (gl ts n) q)) (by rw [gl_len]; exact hb)).1
  unfold pid
  rw [this, ca_gl hb]
def sumT (ts : List Int) (k : Nat) : Int := sm (fun i => ts[i]?.getD 0) k
theorem sumT_tks {ts : List Int} {n : Nat} : tks (gl ts n) = sumT ts n := by
  unfold tks sumT
  rw [gl_len]
  exact sm_congr (fun i hi => by rw [ca_gl hi])

/-- How often an Id stands among the first q. -/
def cnt (l : List Int) (x : Int) (q : Nat) : Int := ((l.take q).count x : Int)
theorem cnt_succ {l : List Int} {x : Int} {q : Nat} (h : q < l.length) : cnt l x (q + 1) = cnt l x q + if l[q]?.getD 0 = x then 1 else 0 := by
  unfold cnt
  rw [List.take_add_one, List.getElem?_eq_getElem h, List.count_append]
  simp only [Option.toList_some, List.count_singleton, Option.getD_some]
  by_cases e : l[q] = x
  · simp [e]
  · have : (l[q] == x) = false := by simpa using e
    simp [e]
theorem cnt_le (l : List Int) (x : Int) (q : Nat) : 0 ≤ cnt l x q ∧ cnt l x q ≤ q := by
  unfold cnt
  have := List.count_le_length (a := x) (l := l.take q)
  simp at this
  omega
theorem isRow_holds {w : World} {a : Option Addr} {len cap : Nat} {zs : List Int} (h : IsRow .i64 w a len cap zs) : HoldsN w a len cap (zs.take len) := by
  rcases h with ⟨rfl, rfl, rfl, rfl⟩ | ⟨x, rfl, hl, hm, hz, hc, _⟩
  · exact ⟨rfl, Nat.le_refl _, Nat.zero_le _, fun _ => ⟨rfl, rfl⟩, fun h => absurd h (by omega)⟩
  · unfold maxLen at hm
    refine ⟨by rw [List.length_take]; omega, hl, by omega, (fun e => by cases e), fun hp => ?_⟩
    have h0 := hc 0 (by omega)
    have hsp := cell_spot h0
    obtain ⟨b, o, s⟩ := x
    have hs : s = none := by
      cases s with
      | none => rfl
      | some y => simp [Addr.add] at hsp
    subst hs
    refine ⟨b, o, rfl, ?_, fun j y hy i u hu => ?_⟩
    · have := World.block_lt_of_cell? w _ h0
      simpa [Addr.add] using this
    · have hi : i = 0 := by
        have := (List.getElem?_eq_some_iff.1 hu).1
        simp [encN] at this
        exact this
      subst hi
      cases hu
      have hj := (List.getElem?_eq_some_iff.1 hy).1
      rw [List.length_take] at hj
      have h1 := hc j (by omega)
      rw [Addr.add_lit] at h1
      rw [Nat.mul_one, Nat.add_zero, h1]
      rw [List.getElem?_take_of_lt (by omega)] at hy
      rw [List.getD_eq_getElem?_getD, hy]
      rfl
/-- 'make([]int, n)'. -/
theorem make_ints (n : Nat) (hn : n ≤ 100) : ∃ C : Array Value, C.size = n ∧ (∀ j, j < n → C[j]? = some (.int .i64 0)) ∧ ∀ w : World, (Instr.makeSlice 36 (.int .i64 (n : Int)) (.int .i64 (n : Int))).run Try.prog w = .ok (.slice (some ⟨w.heap.size, 0, none⟩) n n) (w.alloc (.cells C 3)) := by
  obtain ⟨i0, hi, hz, hs, hb⟩ := info_parts infoN
  refine ⟨madeCells #[.int .i64 0] (n * 1), by rw [size_madeCells]; omega, fun j hj => ?_, fun w => ?_⟩
  · unfold madeCells
    rw [Array.getElem?_map, Array.getElem?_range, if_pos (by omega)]
    simp [Nat.mod_one]
  · have := run_make (P := Try.prog) w 36 3 i0 _ Try.underlying36 hi hz .i64 .i64 n n (by omega) (Int.le_refl _) (by rw [hb]; omega) (by omega)
    simp only [Int.toNat_natCast, hs] at this
    exact this

set_option maxRecDepth 100000 in
set_option maxHeartbeats 16000000 in
theorem walk (a0 : Option Addr) (len0 cap0 : Nat) (z0 : List Int) (w : World) (w0 : IsRow .i64 w a0 len0 cap0 z0) :
    Calls Try.prog 5 #[.slice a0 len0 cap0] w fun e w' => e = .returned (.bool true) ∧ Below w.heap.size w w' := by
  have HH := hid (isRow_holds w0)
  clear w0
  generalize z0.take len0 = ts at *
  have HN := hid HH.out.1
  have hcap := HH.out.2.1
  have hcm := HH.out.2.2.1
  by_cases hbig : 100 < len0
  · have t1 : decide ((100 : Int) < (len0 : Int)) = true := by simp; omega
    go_enter Try.func5, Try.ntmps5
    go_wp2_with fail
    refine (awake9_any w).mono ?_
    rintro e wd1 ⟨rfl, b1⟩
    go_wp2
    go_ret
    exact ⟨rfl, b1⟩
  have t1 : decide ((100 : Int) < (len0 : Int)) = false := by simp; omega
  go_enter Try.func5, Try.ntmps5
  go_wp2_with fail
  refine (awake9_any w).mono ?_
  rintro e wd1 ⟨rfl, b1⟩
  have B1 := hid b1
  clear b1
  go_wp2_with fail
  refine (new_any wd1).mono ?_
  rintro e wd2 ⟨gb, rfl, g2, hgb, b2⟩
  have G2 := hid g2
  have B2 := hid (B1.out.trans (b2.mono B1.out.size))
  have hs1 := B1.out.size
  clear b2 g2
  go_wp2_with fail
  go_loopw [4, 20] (fun u v wr => ∃ k r : Nat, k ≤ len0 ∧ u = .int .i64 (sumT ts k) ∧ v = .int .i64 (k : Int) ∧ Hid (Grp wr gb r (gl ts k)) ∧ w.heap.size ≤ r ∧ Hid (Below w.heap.size w wr) ∧ Hid (∀ i, i < k → 1 ≤ ts[i]?.getD 0 ∧ ts[i]?.getD 0 ≤ 16)) (fun _ v _ => len0 - (intOf v).toNat)
  case atStart => exact ⟨0, gb, by omega, rfl, rfl, G2.out, by omega, B2.out, fun i hi => by omega⟩
  case round =>
    rename World => wi
    obtain ⟨k, r, hk, rfl, rfl, hG, hr, hB, hT⟩ := hrel
    by_cases hlt : k < len0
    · obtain ⟨b, off, rfl, R⟩ := HH.out.rowN (by omega)
      have c0 := keepc hB.out (R k hlt)
      clear R
      have ka : (0 : Int) ≤ (k : Int) := by omega
      have kb : (k : Int) < (len0 : Int) := by omega
      by_cases h1 : ts[k]?.getD 0 < 1
      · have t2 : decide (ts[k]?.getD 0 < 1) = true := by simpa using h1
        clear h1
        generalize ts[k]?.getD 0 = x at *
        go_wp2
        go_ret
        exact ⟨rfl, hB.out⟩
      · have t2 : decide (ts[k]?.getD 0 < 1) = false := by simpa using h1
        by_cases h2 : 16 < ts[k]?.getD 0
        · have t3 : decide (16 < ts[k]?.getD 0) = true := by simpa using h2
          clear h1 h2
          generalize ts[k]?.getD 0 = x at *
          go_wp2
          go_ret
          exact ⟨rfl, hB.out⟩
        · have t3 : decide (16 < ts[k]?.getD 0) = false := by simpa using h2
          have hT1 : Hid (∀ i, i < k + 1 → 1 ≤ ts[i]?.getD 0 ∧ ts[i]?.getD 0 ≤ 16) := by
            intro i hi
            rcases Nat.lt_or_ge i k with h | h
            · exact hT.out i h
            · obtain rfl : i = k := by omega
              omega
          obtain ⟨e1, e2⟩ := gl_join (ts := ts) (k := k) (by omega) hT1.out
          have JA := hid (join_any gb r (gl ts k) (k : Int) (ts[k]?.getD 0) 0 wi hG.out (gl_gr (by omega) hT.out) (by unfold I64; omega))
          rw [e1, e2] at JA
          have SU : Hid (sumT ts (k + 1) = sumT ts k + ts[k]?.getD 0) := rfl
          have sb : 0 ≤ sumT ts k ∧ sumT ts k ≤ 16 * k := by
            have h3 := sm_le (f := fun _ => 0) (g := fun i => ts[i]?.getD 0) (k := k) (fun i hi => by have := hT.out i hi; omega)
            have h4 := sm_le (f := fun i => ts[i]?.getD 0) (g := fun _ => 16) (k := k) (fun i hi => by have := hT.out i hi; omega)
            rw [sm_const] at h3 h4
            unfold sumT; omega
          have hw : IntKind.i64.wrap (sumT ts k + ts[k]?.getD 0) = sumT ts k + ts[k]?.getD 0 := by rw [IntKind.wrap_i64]; omega
          clear h1 h2 e1 e2 sb
          generalize ts[k]?.getD 0 = x at *
          generalize sumT ts k = sv at *
          go_wp2_with fail
          refine JA.out.mono ?_
          rintro e wd4 ⟨r4, rfl, g4, t4, p4⟩
          have G4 := hid g4
          have B4 := hid (hB.out.trans (t4.below (by omega) (by omega) hB.out.size))
          have hbs := hB.out.size
          have R4 : Hid (w.heap.size ≤ r4) := by rcases p4 with h | h <;> (unfold Hid; omega)
          clear g4 t4 p4
          go_wp2
          go_roundw
          case rel => exact ⟨k + 1, r4, by omega, by rw [SU.out], by go_num, G4, R4.out, B4, hT1⟩
          case measure => simp [intOf]; omega
    · have kn : k = len0 := by omega
      subst kn
      have GRK := hid (gl_gr (ts := ts) (k := k) (by omega) hT.out)
      have sb : 0 ≤ sumT ts k ∧ sumT ts k ≤ 16 * k := by
        have h3 := sm_le (f := fun _ => 0) (g := fun i => ts[i]?.getD 0) (k := k) (fun i hi => by have := hT.out i hi; omega)
        have h4 := sm_le (f := fun i => ts[i]?.getD 0) (g := fun _ => 16) (k := k) (fun i hi => by have := hT.out i hi; omega)
        rw [sm_const] at h3 h4
        unfold sumT; omega
      obtain ⟨T, hTT⟩ : ∃ T : Nat, sumT ts k = (T : Int) := ⟨(sumT ts k).toNat, by omega⟩
      have hT0 : 0 < T → 0 < k := fun h => by
        rcases Nat.eq_zero_or_pos k with e | e
        · subst e
          have : sumT ts 0 = 0 := rfl
          omega
        · exact e
      have PKR : Hid (pks (gl ts k) T = gl ts k) := by
        rcases Nat.eq_zero_or_pos k with e | e
        · have : T = 0 := by
            subst e
            have : sumT ts 0 = 0 := rfl
            omega
          rw [this]; rfl
        · exact pks_round GRK.out (fun i hi => by rw [gl_len] at hi; rw [ca_gl hi]) (by rw [gl_len]; exact e) T (by rw [sumT_tks]; exact hTT.symm)
      have CNT : Hid (∀ i, i < k → cnt (pids (gl ts k) T) (i : Int) T = ts[i]?.getD 0) := by
        intro i hi
        unfold cnt
        rw [List.take_of_length_le (by rw [pids_len]; exact Nat.le_refl _)]
        have h1 := pids_count GRK.out (by rw [gl_len]; omega) T (i := i) (by rw [gl_len]; exact hi)
        rw [ca_gl hi] at h1
        have h2 := had_eq GRK.out (fun i hi => by rw [gl_len] at hi; rw [ca_gl hi]) (by rw [gl_len]; omega) T (by rw [sumT_tks]; exact hTT.symm) i (by rw [gl_len]; exact hi)
        rw [ca_gl hi] at h2
        simp only at h1 h2
        rw [h1, h2]
      have hTb : T ≤ 1600 := by omega
      obtain ⟨e1, e2, e3⟩ := runE_ok (l := gl ts k) (n := T) (by omega) (fun h => by rw [gl_len]; exact hT0 h)
      have RN := hid (fun W (h : Grp W gb r (gl ts k)) => run_any gb r (gl ts k) (T : Int) W h GRK.out)
      rw [e1, e2, e3, pids_len, PKR.out] at RN
      rw [hTT]
      obtain ⟨C, hCs, hC0, hmk⟩ := make_ints k (by omega)
      have PRG : Hid (∀ q, q < T → ∃ i : Nat, i < k ∧ (pids (gl ts k) T)[q]?.getD 0 = (i : Int)) := fun q hq => pids_range (hT0 (by omega)) hq
      have PL : Hid ((pids (gl ts k) T).length = T) := pids_len _ _
      have G5 := hid hG.out
      have B5 := hid hB.out
      clear e1 e2 e3 hG hB sb hTT hT0 PKR
      generalize pids (gl ts k) T = xs at *
      generalize gl ts k = lk at *
      go_wp2_with fail
      go_loopw [40] (fun v wr => ∃ c : Nat, c ≤ 3 ∧ v = .int .i64 (c : Int) ∧ Hid (Grp wr gb r lk) ∧ Hid (Below w.heap.size w wr)) (fun v _ => 3 - (intOf v).toNat)
      case atStart => exact ⟨0, by omega, rfl, G5.out, B5.out⟩
      case round =>
        rename World => wc
        obtain ⟨c, hc, rfl, hG, hB⟩ := hrel
        by_cases hlc : c < 3
        · have ca' : (c : Int) < 3 := by omega
          go_wp2_with fail
          refine (RN.out wc hG.out).mono ?_
          rintro e wd6 ⟨v6, rfl, o6, g6, t6⟩
          obtain ⟨a6, c6, rfl⟩ := o6.form
          have X6 := hid (o6.holds encN_len)
          have G6 := hid g6
          have B6 := hid (hB.out.trans (t6.below (by omega) hr hB.out.size))
          clear o6 g6 t6
          have B7 : Hid (Below wd6.heap.size wd6 (wd6.alloc (.cells C 3))) := (Below.refl _ _).alloc (Nat.le_refl _) _
          have Z7 : Hid (∀ j, j < k → (wd6.alloc (.cells C 3)).cell? ⟨wd6.heap.size, j, none⟩ = some (.int .i64 (cnt xs (j : Int) 0))) := by
            intro j hj
            rw [World.cell?_alloc_at (w := wd6) _ _ wd6.heap.size j rfl, hC0 j hj]
            rfl
          have F7 : Hid (∀ j, (wd6.alloc (.cells C 3)).frozen? ⟨wd6.heap.size, j, none⟩ = false) := fun j => World.frozen?_alloc_at (w := wd6) _ _ wd6.heap.size j rfl
          have X7 := hid (X6.out.below B7.out)
          have G7 := hid (G6.out.below B7.out)
          have H7 := hid (HH.out.below (B6.out.trans (B7.out.mono B6.out.size)))
          have hs6 := B6.out.size
          have gl6 := G6.out.lt
          have sz7 : Hid ((wd6.alloc (.cells C 3)).heap.size = wd6.heap.size + 1) := by simp [Hid]
          have XB : Hid (∀ x o, a6 = some ⟨x, o, none⟩ → 0 < T → x ≠ wd6.heap.size ∧ x ≠ wd6.heap.size) := by
            intro x o e h
            obtain ⟨b', o', e', hlt', _⟩ := X6.out.2.2.2.2 h
            rw [e] at e'
            cases e'
            omega
          have HB : Hid (∀ x o, a0 = some ⟨x, o, none⟩ → 0 < k → x ≠ wd6.heap.size ∧ x ≠ wd6.heap.size) := by
            intro x o e h
            obtain ⟨b', o', e', hlt', _⟩ := HH.out.2.2.2.2 h
            rw [e] at e'
            cases e'
            omega
          go_wp2_with fail
          generalize hW7 : wd6.alloc (.cells C 3) = W7 at *
          clear hW7
          go_loopw [55] (fun v wr => ∃ q : Nat, q ≤ T ∧ v = .int .i64 (q : Int) ∧ Hid (∀ j, j < k → wr.cell? ⟨wd6.heap.size, j, none⟩ = some (.int .i64 (cnt xs (j : Int) q))) ∧ Hid (∀ j, wr.frozen? ⟨wd6.heap.size, j, none⟩ = false) ∧ Hid (Tn wd6.heap.size wd6.heap.size W7 wr)) (fun v _ => T - (intOf v).toNat)
          case atStart => exact ⟨0, by omega, rfl, Z7.out, F7.out, Tn.refl _ _ _⟩
          case round =>
            rename World => wq
            obtain ⟨q, hq, rfl, hZ, hF, hTn⟩ := hrel
            by_cases hlq : q < T
            · obtain ⟨i, hi, ei⟩ := PRG.out q hlq
              obtain ⟨xb, xo, rfl, RX⟩ := (hTn.out.holds X7.out XB.out).rowN (by omega)
              have c0 := RX q hlq
              rw [ei] at c0
              have c1 := hZ.out i hi
              have f1 := hF.out i
              have cb := cnt_le xs (i : Int) q
              have hw : IntKind.i64.wrap (cnt xs (i : Int) q + 1) = cnt xs (i : Int) q + 1 := by rw [IntKind.wrap_i64]; omega
              have qa' : (0 : Int) ≤ (q : Int) := by omega
              have qb : (q : Int) < (T : Int) := by omega
              have ia : (0 : Int) ≤ (i : Int) := by omega
              have ib : (i : Int) < (k : Int) := by omega
              have NZ : Hid (∀ j, j < k → (wq.setCell ⟨wd6.heap.size, i, none⟩ (.int .i64 (cnt xs (i : Int) q + 1))).cell? ⟨wd6.heap.size, j, none⟩ = some (.int .i64 (cnt xs (j : Int) (q + 1)))) := by
                intro j hj
                have cs := cnt_succ (l := xs) (x := (j : Int)) (q := q) (by rw [PL.out]; exact hlq)
                rw [ei] at cs
                by_cases e : j = i
                · subst e
                  rw [cs, if_pos rfl]
                  exact World.cell?_setCell_same _ _ _ c1
                · rw [cs, if_neg (by omega), World.cell?_setCell_other _ _ _ _ (by intro h; injection h with h1 h2; omega), hZ.out j hj]
                  simp
              have NF : Hid (∀ j, (wq.setCell ⟨wd6.heap.size, i, none⟩ (.int .i64 (cnt xs (i : Int) q + 1))).frozen? ⟨wd6.heap.size, j, none⟩ = false) := fun j => by rw [World.frozen?_setCell]; exact hF.out j
              have NT : Hid (Tn wd6.heap.size wd6.heap.size W7 (wq.setCell ⟨wd6.heap.size, i, none⟩ (.int .i64 (cnt xs (i : Int) q + 1)))) := hTn.out.trans (Tn.setCell (.inl rfl)) (.inl rfl)
              clear RX ei cb
              generalize cnt xs (i : Int) q = cv at *
              go_wp2
              go_roundw
              case rel => exact ⟨q + 1, by omega, by go_num, NZ, NF, NT⟩
              case measure => simp [intOf]; omega
            · have qn : q = T := by omega
              subst qn
              have HD : HoldsN wq (some ⟨wd6.heap.size, 0, none⟩) k k ts := by
                refine ⟨HN.out, Nat.le_refl _, by omega, (fun e => by cases e), fun hp => ⟨wd6.heap.size, 0, rfl, by have := hTn.out.size; have := sz7.out; omega, fun j x hx i v hv => ?_⟩⟩
                have hi0 : i = 0 := by
                  have := (List.getElem?_eq_some_iff.1 hv).1
                  simp [encN] at this
                  exact this
                subst hi0
                cases hv
                have hj : j < k := by have := (List.getElem?_eq_some_iff.1 hx).1; rw [HN.out] at this; exact this
                have h1 := hZ.out j hj
                rw [CNT.out j hj, hx] at h1
                rw [show 0 + j * 1 + 0 = j by omega]
                exact h1
              have IA := hid (ints_any (some ⟨wd6.heap.size, 0, none⟩) a0 k k cap0 ts wq HD (hTn.out.holds H7.out HB.out) (by omega))
              have B8 : Hid (Below w.heap.size w wq) := (B6.out.trans (B7.out.mono B6.out.size)).trans (hTn.out.below (by omega) (by omega) (by have := sz7.out; omega))
              have G8 := hid (G7.out.tn hTn.out (by omega) (by omega) (by omega) (by omega))
              clear HD hZ hF hTn
              go_wp2_with fail
              refine IA.out.mono ?_
              rintro e wf ⟨rfl, bf⟩
              have B9 := hid (B8.out.trans (bf.mono B8.out.size))
              have G9 := hid (G8.out.below bf)
              clear bf
              go_wp2
              go_roundw
              case rel => exact ⟨c + 1, by omega, by go_num, G9, B9⟩
              case measure => simp [intOf]; omega
        · have c3 : c = 3 := by omega
          subst c3
          go_wp2
          go_ret
          exact ⟨rfl, hB.out⟩

theorem own : ownKnob Try.prog.godebug = none := by kernel_rfl
theorem laidOut : laidOutB Try.prog = true := by kernel_rfl

set_option maxRecDepth 100000 in
theorem lifted (os : Os) (started : os.Started) (H : Type) (enc : TypeId × Value → H) :
    ReturnsInHanded {} Try.checked os 5 .any (Rows.strideRoundsSpec.pre6 enc Try.prog Try.f5 Rows.strideRoundsRow.domain false) (Rows.strideRoundsSpec.post enc Try.prog Try.f5 false true false false) := by
  refine returnsInHanded_of_change (C := Try.checked) own started (by kernel_rfl) Try.func5
    (ChangeSpec.witness6 (enc := enc) (C := Try.checked) false ⟨#[], #[.slice none 0 0], []⟩ 8 (by kernel_rfl) (by kernel_rfl) (by kernel_rfl) (by kernel_rfl)) ?_
  intro W base args ds gs before hval0 hW hcnd _
  have hval : ∀ (j : Nat) t v, Try.f5.params[j]? = some t → args[j]? = some v → Value.okWide Try.prog W .any base t v := hval0
  have hW' := hW
  obtain ⟨p, q, hA0, hV, rfl, hfz, hnd⟩ := hW
  have hA : DataW.TrodAll enc Try.prog W 0 (fun _ => true) true Try.f5.params.toList args.toList ds p := hA0
  rw [Try.params5] at hA hval
  obtain ⟨v0, vs0, d0, ds0, p0, q0, hargs, rfl, rfl, h0, r0⟩ := trodAll_cons hA
  obtain ⟨rfl, rfl, rfl⟩ := trodAll_nil r0
  obtain rfl : args = #[v0] := by cases args; simp_all
  obtain ⟨rfl, rfl⟩ := trodVars_none hV
  have lt0 : ∀ x ∈ p0, x.block < W.heap.size := by obtain ⟨m, hm⟩ := h0; exact DataW.trod_lt m _ _ _ hm
  obtain ⟨a0, len0, cap0, rfl⟩ := okWide_slice Try.underlying36 (hval 0 36 v0 rfl rfl)
  obtain ⟨z0, w0⟩ := val_row Try.underlying36 Try.underlying3 (by kernel_rfl) h0
  clear hA0 hval0
  refine (walk a0 len0 cap0 z0 W w0).mono fun e W' ⟨he, bel⟩ => ?_
  subst he
  exact ⟨_, rfl, _, _, _, [], _, [], hW', trodAll_mk1 (shut_bool Try.underlying4 _), (trodAll_cons_mk (Below.trod laidOut (by kernel_rfl) (of_decide_eq_true (by kernel_rfl)) h0 bel lt0) trodAll_mk0), rfl, bel.frame _, fun h => by cases h⟩

theorem over : Rows.strideRoundsRow.holds Try.pinned (OpenSpec.ofChange Rows.strideRoundsSpec) :=
  OpenClaim.holds_of_wide 5 Try.f5 rfl rfl rfl rfl rfl rfl rfl ⟨rfl, rfl, rfl, rfl, rfl⟩ rfl rfl rfl rfl rfl (by kernel_rfl) Try.func5 (by kernel_rfl)
    (of_decide_eq_true (by kernel_rfl)) (by unfold Func.isWrapper; first | (rw [if_pos (by decide +kernel)]; kernel_rfl) | (rw [if_neg (by decide +kernel)]; exact ⟨rfl, rfl⟩))
    (fun os started H enc _ => lifted os started H enc)

theorem proved : Rows.StrideRoundsSaid := over
#print axioms proved
end Go.Proofs.Ytdenhpclopjjgaa.strideRounds
