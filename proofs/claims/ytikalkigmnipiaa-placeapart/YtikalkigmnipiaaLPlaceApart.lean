/- PlaceApart: for every list of nodes, every list of leases, every need and every number the law answers true, and its arguments read as they did. No further conditions. -/
import Derived.Test.YtikalkigmnipiaaPS
import Derived.Test.YtikalkigmnipiaaPV
import Derived.ArgAppend
namespace Go.Proofs.Ytikalkigmnipiaa.placeApart
open Go.ChangeShapes Go.WideShapes Go.ChangeAt Go.RowKit Go.Deep Go.Maps Go.Shelf
set_option linter.unusedVariables false
set_option linter.unusedSimpArgs false

theorem fndL_le (ns : List Nd) (ls : List Lz) (nc nm : Int) : (fndL ns ls nc nm).length ≤ 64 := by
  unfold fndL
  split
  · rename_i h
    have hb : needB nc nm = false := by
      unfold fndE at h
      split at h
      · split at h
        · cases h
        · rename_i hb; simpa using hb
      · rename_i h0; exact absurd h h0
    unfold needB at hb
    simp at hb
    rw [List.length_take]
    omega
  · simp
theorem freeL_le (ns : List Nd) (ls : List Lz) (id : Int) : (freeL ns ls id).length ≤ 64 := by
  unfold freeL
  split
  · rename_i h
    unfold freeE at h
    split at h
    · rename_i h0
      split at h
      · rename_i h1
        obtain ⟨_, hn, _⟩ := plE_zero h0
        have hN := ((ndsB_iff.1 hn).1 _ h1).1
        have := freeT_le (rmA ls (da ns (ndI ns id))).tk (da ns (ndI ns id)).co.toNat
        unfold frL
        omega
      · cases h
    · rename_i h0; exact absurd h h0
  · simp

/-- New numbers, by the block in which they lie (K, where there are none). -/
theorem at_block {N : Nat} {w : World} {v : Value} {n : Nat} {l : List Int} (h : NewN N w v n l) (K : Nat) : ∃ ao ga, v = .slice ao n n ∧ ((N ≤ ga ∧ ga < w.heap.size) ∨ ga = K) ∧ (0 < n → ao = some ⟨ga, 0, none⟩ ∧ ∀ j, w.frozen? ⟨ga, j, none⟩ = false) ∧ HoldsN w ao n n l := by
  rcases h with ⟨rfl, rfl, rfl⟩ | ⟨g, rfl, h1, h2, h3, h4⟩
  · exact ⟨none, K, rfl, .inr rfl, fun h => absurd h (by omega), rfl, by omega, by omega, fun _ => ⟨rfl, rfl⟩, fun h => absurd h (by omega)⟩
  · exact ⟨_, g, rfl, .inl ⟨h1, h2⟩, fun _ => ⟨rfl, h4⟩, h3⟩
theorem new_in {N : Nat} {w : World} {v : Value} {n : Nat} {l : List Int} (h : NewN N w v n l) : 0 < n → ∃ g c, v = .slice (some ⟨g, 0, none⟩) n c ∧ N ≤ g ∧ g < w.heap.size := by
  rcases h with ⟨rfl, rfl, rfl⟩ | ⟨g, rfl, h1, h2, h3, h4⟩
  · intro h; exact absurd h (by omega)
  · exact fun _ => ⟨g, n, rfl, h1, h2⟩
theorem new_fz {N : Nat} {w : World} {ao : Option Addr} {n g : Nat} {l : List Int} (h : NewN N w (.slice ao n n) n l) (e : ao = some ⟨g, 0, none⟩) : ∀ j, w.frozen? ⟨g, j, none⟩ = false := by
  rcases h with ⟨h0, _, _⟩ | ⟨g', h0, h1, h2, h3, h4⟩
  · cases h0; cases e
  · cases h0; cases e; exact h4
theorem pick_block {ao : Option Addr} {n lo hi : Nat} (K : Nat) (h : 0 < n → ∃ g c, Value.slice ao n n = .slice (some ⟨g, 0, none⟩) n c ∧ lo ≤ g ∧ g < hi) : ∃ ga, (0 < n → ao = some ⟨ga, 0, none⟩ ∧ lo ≤ ga ∧ ga < hi) ∧ (n = 0 → ga = K) := by
  rcases Nat.eq_zero_or_pos n with h0 | h0
  · exact ⟨K, fun h => absurd h (by omega), fun _ => rfl⟩
  · obtain ⟨g, c, e, h1, h2⟩ := h h0
    cases e
    exact ⟨g, fun _ => ⟨rfl, h1, h2⟩, fun h => absurd h (by omega)⟩
theorem block_of {w : World} {ao : Option Addr} {n g : Nat} {l : List Int} (h : HoldsN w ao n n l) (hb : 0 < n → ao = some ⟨g, 0, none⟩) : ∀ x o, ao = some ⟨x, o, none⟩ → 0 < n → x = g := by
  intro x o e hp
  rw [hb hp] at e
  cases e
  rfl
theorem own_first {b1 b2 : Nat} {w : World} {u v : Value} {n m : Nat} {l l' : List Int} (h : OwnN b1 w u n l) (h' : OwnN b2 w v m l') {x y : Int} (hx : l[0]? = some x) (hy : l'[0]? = some y) (hne : x ≠ y) : ∀ g, u.ownBlock = some g → v.ownBlock ≠ some g := by
  intro g hg hg'
  have c1 : w.cell? ⟨g, 0, none⟩ = some (.int .i64 x) := by
    obtain ⟨a, c, rfl⟩ := h.form
    have hh := h.holds encN_len
    have hp : 0 < n := by rw [← hh.1]; exact (List.getElem?_eq_some_iff.1 hx).1
    rcases h.2.2 with ⟨hv, _⟩ | ⟨g', cap, cur, hv, _⟩
    · cases hv; cases hg
    · cases hv
      simp [Value.ownBlock] at hg
      subst hg
      obtain ⟨b, o, e, _, hc⟩ := hh.2.2.2.2 hp
      cases e
      exact hc 0 x hx 0 _ rfl
  have c2 : w.cell? ⟨g, 0, none⟩ = some (.int .i64 y) := by
    obtain ⟨a, c, rfl⟩ := h'.form
    have hh := h'.holds encN_len
    have hp : 0 < m := by rw [← hh.1]; exact (List.getElem?_eq_some_iff.1 hy).1
    rcases h'.2.2 with ⟨hv, _⟩ | ⟨g', cap, cur, hv, _⟩
    · cases hv; cases hg'
    · cases hv
      simp [Value.ownBlock] at hg'
      subst hg'
      obtain ⟨b, o, e, _, hc⟩ := hh.2.2.2.2 hp
      cases e
      exact hc 0 y hy 0 _ rfl
  rw [c1] at c2
  injection c2 with c3
  injection c3 with _ c4
  exact hne c4
theorem own_far {base n : Nat} {l : List Int} {v : Value} {w w' : World} {row : Option Nat} (h : OwnN base w v n l) (hb : w.grownBy w' row) (hne : ∀ g, v.ownBlock = some g → row ≠ some g) : OwnN base w' v n l := by
  have hlt := h.lt
  obtain ⟨h0, h1, h2⟩ := h
  refine ⟨h0, h1, ?_⟩
  rcases h2 with h2 | ⟨g, cap, cur, hv, hg, hh, r⟩
  · exact .inl h2
  · refine .inr ⟨g, cap, cur, hv, hg, ?_, r⟩
    have hg' : v.ownBlock = some g := by rw [hv]; rfl
    rw [hb.block g (hlt g hg').2 (fun e => hne g hg' e.symm)]
    exact hh

section
variable {ops : Array Oper} {rest : List Oper} {o : Oper} {a : Act} {Q : Exit → Act → World → Prop}
/-- 'append(m, x)' of numbers without room behind them. -/
theorem push_full (wr : World) (x : Int) (hg : o.guard = none) (s y : Operand) (hop : o.op = Op.call { callee := Callee.builtin Builtin.append, args := #[s, y], argTypes := #[28, 28] })
    (ao : Option Addr) (n : Nat) (l : List Int) (hs : a.eval s = .slice ao n n) (hh : HoldsN wr ao n n l) (hx : a.eval y = .slice (some ⟨wr.heap.size, 0, none⟩) 1 1) (b1 : n + 1 ≤ 1000000)
    (hK : ∀ v' w', OwnN wr.heap.size w' v' (n + 1) (l ++ [x]) → Below wr.heap.size wr w' → wpList Try.prog ops Q rest (a.put o.dst v') w') :
    wpList Try.prog ops Q (o :: rest) a (wr.alloc (.cells #[.int .i64 x] 3)) := by
  obtain ⟨i0, hi, hz0, hz1, hz2⟩ := info_parts infoN
  have kA : Below wr.heap.size wr (wr.alloc (.cells #[.int .i64 x] 3)) := (Below.refl _ wr).alloc (Nat.le_refl _) _
  refine wpList_append_grows _ hg s y 28 hop 3 i0 (.int .i64 0) 1 8 Try.underlying28 hi hz0 hz1 hz2 rfl (by decide) ao n n (l.flatMap encN) hs hh.2.2.2.1 (by rw [flat_len encN_len, hh.1]) ?_ ⟨wr.heap.size, 0, none⟩ 1 1 [.int .i64 x] hx rfl ?_ ?_ (by omega) (by unfold maxLen; omega) (by omega) ?_
  · intro b hb j u hj
    have hjl : j < l.length := by have := (List.getElem?_eq_some_iff.1 hj).1; rw [flat_len encN_len] at this; omega
    obtain ⟨b', off, e, _, hc⟩ := hh.2.2.2.2 (by rw [← hh.1]; omega)
    rw [hb] at e
    cases e
    obtain ⟨j', x', i, rfl, hx', hu⟩ := flat_inv encN_len _ _ _ hj
    rw [Addr.add_lit, ← Nat.add_assoc]
    exact keepc kA (hc j' x' hx' i u hu)
  · intro j u hj
    match j, hj with
    | 0, hj => cases hj; rw [Addr.add_lit]; simp [go_sem]
  · intro u hu
    simp at hu
    subst hu
    rfl
  · intro v' w' h1 h2
    have kB : Below wr.heap.size wr w' := kA.grown h2 (by simp) (fun k e => by cases e)
    refine hK v' w' ⟨by simp [hh.1], ?_⟩ kB
    have h3 : OwnN (wr.alloc (.cells #[.int .i64 x] 3)).heap.size w' v' (n + 1) (l ++ [x]) := ⟨by simp [hh.1], by simpa [encN] using h1⟩
    exact (h3.weaken (by simp)).2
end

/-- What stands behind the rows that the law writes. -/
def Rows3 (B : Nat) (ao co : Option Addr) (n m k : Nat) (wr : World) (va vc : Value) : Prop :=
  (k = 0 ∧ va = .slice ao n n ∧ vc = .slice co m m) ∨
  (0 < k ∧ ∃ la lc : List Int, OwnN B wr va (n + k) la ∧ OwnN B wr vc (m + k) lc ∧ (∃ x, la[0]? = some x ∧ (x = -5 ∨ x = -7)) ∧ ∃ y, lc[0]? = some y ∧ (y = -6 ∨ y = -8))
theorem rep_first (n : Nat) (p q : Int) : ∃ x, (List.replicate n p ++ [q])[0]? = some x ∧ (x = p ∨ x = q) := by
  cases n with
  | zero => exact ⟨q, rfl, .inr rfl⟩
  | succ n => exact ⟨p, rfl, .inl rfl⟩
theorem cons_first {l : List Int} {x y : Int} (h : l[0]? = some x) : (l ++ [y])[0]? = some x := by
  cases l with
  | nil => cases h
  | cons z r => exact h
theorem holds_rep {w : World} {ao : Option Addr} {n g : Nat} {p : Int} (hn : n ≤ 64) (hb : 0 < n → ao = some ⟨g, 0, none⟩) (h0 : ao = none → n = 0) (hg : 0 < n → g < w.heap.size) (hc : ∀ j, j < n → w.cell? ⟨g, j, none⟩ = some (.int .i64 p)) : HoldsN w ao n n (List.replicate n p) := by
  refine ⟨by simp, by omega, by omega, fun e => ⟨h0 e, h0 e⟩, fun hp => ⟨g, 0, hb hp, hg hp, fun j x hx i v hv => ?_⟩⟩
  have hj : j < n := by have := (List.getElem?_eq_some_iff.1 hx).1; simpa using this
  rw [List.getElem?_replicate_of_lt hj] at hx
  cases hx
  have hi : i = 0 := by have := (List.getElem?_eq_some_iff.1 hv).1; simp [encN] at this; exact this
  subst hi
  cases hv
  have := hc j hj
  rwa [Nat.zero_add, Nat.mul_one, Nat.add_zero]

set_option maxRecDepth 100000 in
set_option maxHeartbeats 16000000 in
theorem walk (a : Option Addr) (len cap : Nat) (ns : List Nd) (qa : Option Addr) (ql qc : Nat) (l : List Le) (nc nm id : Int) (w : World) (h : HoldsD w a len cap ns) (hok : ∀ q ∈ ns, q.ok) (hl : HoldsL w qa ql qc l) (hlk : ∀ q ∈ l, q.ok) (i0 : I64 nc) (i1 : I64 nm) (i2 : I64 id) :
    Calls Try.prog 8 #[.slice a len cap, .slice qa ql qc, .agg #[.int .i64 nc, .int .i64 nm], .int .i64 id] w fun e w' => e = .returned (.bool true) ∧ Below w.heap.size w w' := by
  have FN := hid (fun W (hW : Below w.heap.size w W) => pfind_any a len cap ns qa ql qc l nc nm W (h.below hW) (hl.below hW))
  have FR := hid (fun W (hW : Below w.heap.size w W) => pfree_any a len cap ns qa ql qc l id W (h.below hW) (hl.below hW))
  have RN := hid (fun W (hW : Below w.heap.size w W) => rpfind_any a len cap ns qa ql qc l nc nm W (h.below hW) (hl.below hW))
  have RF := hid (fun W (hW : Below w.heap.size w W) => rpfree_any a len cap ns qa ql qc l id W (h.below hW) (hl.below hW))
  have LE1 := fndL_le ns (l.map Le.z) nc nm
  have LE2 := freeL_le ns (l.map Le.z) id
  have BW : Hid (Below w.heap.size w (w.alloc (.cells #[.int .i64 nc, .int .i64 nm] 25))) := (Below.refl _ w).alloc (Nat.le_refl _) _
  have M0 : Hid ((w.alloc (.cells #[.int .i64 nc, .int .i64 nm] 25)).cell? ⟨w.heap.size, 0, none⟩ = some (.int .i64 nc)) := by unfold Hid; simp [go_sem]
  have M1 : Hid ((w.alloc (.cells #[.int .i64 nc, .int .i64 nm] 25)).cell? ⟨w.heap.size, 1, none⟩ = some (.int .i64 nm)) := by unfold Hid; simp [go_sem]
  have WS : Hid ((w.alloc (.cells #[.int .i64 nc, .int .i64 nm] 25)).heap.size = w.heap.size + 1) := by unfold Hid; simp
  clear h hl hok hlk i0 i1 i2
  generalize l.map Le.z = ls at *
  generalize fndL ns ls nc nm = FL at *
  generalize fndI ns ls nc nm = FI at *
  generalize fndE ns ls nc nm = FE at *
  generalize freeL ns ls id = GL at *
  generalize freeM ns ls id = GM at *
  generalize freeE ns ls id = GE at *
  generalize hN : FL.length = n at *
  generalize hM : GL.length = m at *
  clear hN hM
  have e1 : (FE == FE) = true := by simp
  have e2 : (GE == GE) = true := by simp
  go_enter Try.func8, Try.ntmps8
  go_wp2_with fail
  refine (awake7_any _).mono ?_
  rintro e w1 ⟨rfl, b1⟩
  have B1 := hid (BW.out.trans (b1.mono BW.out.size))
  have m0 := keepc b1 M0.out
  have m1 := keepc b1 M1.out
  have S1 : w.heap.size + 1 ≤ w1.heap.size := by have := b1.size; rw [WS.out] at this; exact this
  clear b1 M0 M1 WS BW
  go_wp2_with fail
  refine (FN.out _ B1.out).mono ?_
  rintro e w2 ⟨v2, rfl, o2, b2⟩
  have S2 := b2.size
  have B2 := hid (B1.out.trans (b2.mono B1.out.size))
  replace m0 := keepc b2 m0
  replace m1 := keepc b2 m1
  have O2 := hid o2
  have BDA := hid (new_in o2)
  clear b2 o2
  have hv2 : ∃ ao, v2 = .slice ao n n := by obtain ⟨ao, e, _⟩ := O2.out.holds; exact ⟨ao, e⟩
  obtain ⟨ao, rfl⟩ := hv2
  go_wp2_with fail
  refine (FN.out _ B2.out).mono ?_
  rintro e w3 ⟨v3, rfl, o3, b3⟩
  have S3 := b3.size
  have B3 := hid (B2.out.trans (b3.mono B2.out.size))
  replace m0 := hid (keepc b3 m0)
  replace m1 := hid (keepc b3 m1)
  replace O2 := hid (O2.out.below b3)
  have O3 := hid o3
  have BDB := hid (new_in o3)
  clear b3 o3 FN B1
  have hv3 : ∃ bo, v3 = .slice bo n n := by obtain ⟨ao, e, _⟩ := O3.out.holds; exact ⟨ao, e⟩
  obtain ⟨bo, rfl⟩ := hv3
  go_wp2_with fail
  refine (FR.out _ B3.out).mono ?_
  rintro e w4 ⟨v4, rfl, o4, b4⟩
  have S4 := b4.size
  have B4 := hid (B3.out.trans (b4.mono B3.out.size))
  replace m0 := hid (keepc b4 m0.out)
  replace m1 := hid (keepc b4 m1.out)
  replace O2 := hid (O2.out.below b4)
  replace O3 := hid (O3.out.below b4)
  have O4 := hid o4
  have BDC := hid (new_in o4)
  clear b4 o4 B2
  have hv4 : ∃ co, v4 = .slice co m m := by obtain ⟨ao, e, _⟩ := O4.out.holds; exact ⟨ao, e⟩
  obtain ⟨co, rfl⟩ := hv4
  go_wp2_with fail
  refine (FR.out _ B4.out).mono ?_
  rintro e w5 ⟨v5, rfl, o5, b5⟩
  have S5 := b5.size
  have B5 := hid (B4.out.trans (b5.mono B4.out.size))
  replace m0 := hid (keepc b5 m0.out)
  replace m1 := hid (keepc b5 m1.out)
  replace O2 := hid (O2.out.below b5)
  replace O3 := hid (O3.out.below b5)
  replace O4 := hid (O4.out.below b5)
  have O5 := hid o5
  have BDD := hid (new_in o5)
  clear b5 o5 B3 B4 FR
  have hv5 : ∃ dq, v5 = .slice dq m m := by obtain ⟨ao, e, _⟩ := O5.out.holds; exact ⟨ao, e⟩
  obtain ⟨dq, rfl⟩ := hv5
  obtain ⟨ga, GA1, GA2⟩ := pick_block (w5.heap.size + 1) BDA.out
  obtain ⟨gb, GB1, GB2⟩ := pick_block (w5.heap.size + 2) BDB.out
  obtain ⟨gc, GC1, GC2⟩ := pick_block (w5.heap.size + 3) BDC.out
  obtain ⟨gd, GD1, GD2⟩ := pick_block (w5.heap.size + 4) BDD.out
  have GA := hid GA1
  have GC := hid GC1
  have NE : Hid (w1.heap.size ≤ ga ∧ w1.heap.size ≤ gc ∧ ga ≠ gc ∧ (0 < n → gb ≠ ga ∧ gb ≠ gc) ∧ (0 < m → gd ≠ ga ∧ gd ≠ gc)) := by
    rcases Nat.eq_zero_or_pos n with hn | hn
    · have a1 := GA2 hn
      rcases Nat.eq_zero_or_pos m with hm | hm
      · have a2 := GC2 hm
        exact ⟨by omega, by omega, by omega, fun h => absurd h (by omega), fun h => absurd h (by omega)⟩
      · have a2 := GC1 hm
        have a3 := GD1 hm
        exact ⟨by omega, by omega, by omega, fun h => absurd h (by omega), fun _ => ⟨by omega, by omega⟩⟩
    · have a1 := GA1 hn
      have a4 := GB1 hn
      rcases Nat.eq_zero_or_pos m with hm | hm
      · have a2 := GC2 hm
        exact ⟨by omega, by omega, by omega, fun _ => ⟨by omega, by omega⟩, fun h => absurd h (by omega)⟩
      · have a2 := GC1 hm
        have a3 := GD1 hm
        exact ⟨by omega, by omega, by omega, fun _ => ⟨by omega, by omega⟩, fun _ => ⟨by omega, by omega⟩⟩
  have HA : Hid (HoldsN w5 ao n n FL) := by obtain ⟨x, e, h⟩ := O2.out.holds; cases e; exact h
  have HBb : Hid (HoldsN w5 bo n n FL) := by obtain ⟨x, e, h⟩ := O3.out.holds; cases e; exact h
  have HC : Hid (HoldsN w5 co m m GL) := by obtain ⟨x, e, h⟩ := O4.out.holds; cases e; exact h
  have HDd : Hid (HoldsN w5 dq m m GL) := by obtain ⟨x, e, h⟩ := O5.out.holds; cases e; exact h
  have XB : Hid (∀ x o, bo = some ⟨x, o, none⟩ → 0 < n → x = gb) := block_of HBb.out (fun h => (GB1 h).1)
  have XD : Hid (∀ x o, dq = some ⟨x, o, none⟩ → 0 < m → x = gd) := block_of HDd.out (fun h => (GD1 h).1)
  have EA : Hid (∀ j, 0 ≤ j → j < n → ∃ x, w5.cell? ⟨ga, j, none⟩ = some x) := fun j _ hj => by
    obtain ⟨b, off, e, R⟩ := HA.out.rowA (by omega)
    rw [(GA1 (by omega)).1] at e
    cases e
    have := R j hj
    rw [Nat.zero_add] at this
    exact ⟨_, this⟩
  have EC : Hid (∀ j, 0 ≤ j → j < m → ∃ x, w5.cell? ⟨gc, j, none⟩ = some x) := fun j _ hj => by
    obtain ⟨b, off, e, R⟩ := HC.out.rowA (by omega)
    rw [(GC1 (by omega)).1] at e
    cases e
    have := R j hj
    rw [Nat.zero_add] at this
    exact ⟨_, this⟩
  have FA : Hid (0 < n → ∀ j, w5.frozen? ⟨ga, j, none⟩ = false) := fun h => new_fz O2.out (GA1 h).1
  have FC : Hid (0 < m → ∀ j, w5.frozen? ⟨gc, j, none⟩ = false) := fun h => new_fz O4.out (GC1 h).1
  have NA : Hid (ao = none → n = 0) := fun h => (HA.out.2.2.2.1 h).1
  have NC : Hid (co = none → m = 0) := fun h => (HC.out.2.2.2.1 h).1
  have B1' := hid B5.out.size
  clear O2 O3 O4 O5 GA1 GA2 GB1 GB2 GC1 GC2 GD1 GD2 BDA BDB BDC BDD HA HC
  go_wp2_with fail
  go_loopw [65] (fun i wr => ∃ k : Nat, k ≤ n ∧ i = .int .i64 (k : Int) ∧ Hid (∀ j, j < k → wr.cell? ⟨ga, j, none⟩ = some (.int .i64 (-5))) ∧ Hid (∀ j, k ≤ j → j < n → ∃ x, wr.cell? ⟨ga, j, none⟩ = some x) ∧ Hid (0 < n → ∀ j, wr.frozen? ⟨ga, j, none⟩ = false) ∧ Hid (But ga w5 wr)) (fun i _ => n - (intOf i).toNat)
  case atStart => exact ⟨0, by omega, rfl, fun j hj => absurd hj (by omega), EA, FA, But.refl _ _⟩
  case round =>
    obtain ⟨k, hk, rfl, h5, hx, hf, hB⟩ := hrel
    by_cases hlt : k < n
    · obtain ⟨rfl, _, _⟩ := GA.out (by omega)
      obtain ⟨x, x0⟩ := hx.out k (Nat.le_refl _) hlt
      have f0 := hf.out (by omega) k
      have ka : (0 : Int) ≤ (k : Int) := by omega
      have kb : (k : Int) < (n : Int) := by omega
      have H5 : Hid (∀ j, j < k + 1 → (wr.setCell ⟨ga, k, none⟩ (.int .i64 (-5))).cell? ⟨ga, j, none⟩ = some (.int .i64 (-5))) := fun j hj => by
        by_cases e : j = k
        · subst e; exact World.cell?_setCell_same _ _ _ x0
        · rw [World.cell?_setCell_other _ _ _ _ (by intro e'; injection e' with e1 e2; omega)]; exact h5.out j (by omega)
      have HX : Hid (∀ j, k + 1 ≤ j → j < n → ∃ x, (wr.setCell ⟨ga, k, none⟩ (.int .i64 (-5))).cell? ⟨ga, j, none⟩ = some x) := fun j hj hj2 => by
        rw [World.cell?_setCell_other _ _ _ _ (by intro e'; injection e' with e1 e2; omega)]; exact hx.out j (by omega) hj2
      have HF : Hid (0 < n → ∀ j, (wr.setCell ⟨ga, k, none⟩ (.int .i64 (-5))).frozen? ⟨ga, j, none⟩ = false) := fun h j => by rw [World.frozen?_setCell]; exact hf.out h j
      have HB := hid (hB.out.trans (But.setCell ga k wr (.int .i64 (-5))))
      clear h5 hx hf hB
      go_wp2
      go_roundw
      case rel => exact ⟨k + 1, by omega, by go_num, H5, HX, HF, HB⟩
      case measure => simp [intOf]; omega
    · obtain rfl : n = k := by omega
      have B6 := hB
      have V5 := h5
      clear hx hf hB h5 EA FA hk
      rename World => w6
      have EC6 : Hid (∀ j, 0 ≤ j → j < m → ∃ x, w6.cell? ⟨gc, j, none⟩ = some x) := fun j h1 h2 => by
        obtain ⟨x, hx⟩ := EC.out j h1 h2
        exact ⟨x, B6.out.cell hx (fun e => NE.out.2.2.1 e.symm)⟩
      have FC6 : Hid (0 < m → ∀ j, w6.frozen? ⟨gc, j, none⟩ = false) := fun h j => by
        obtain ⟨x, hx⟩ := EC.out 0 (Nat.le_refl _) h
        have hlt : gc < w5.heap.size := cell_lt hx
        exact (World.frozen?_of_block (w := w5) (a := ⟨gc, j, none⟩) (B6.out.oth gc hlt (fun e => NE.out.2.2.1 e.symm))).trans (FC.out h j)
      clear EC FC
      go_wp2_with fail
      go_loopw [74] (fun i wr => ∃ k : Nat, k ≤ m ∧ i = .int .i64 (k : Int) ∧ Hid (∀ j, j < k → wr.cell? ⟨gc, j, none⟩ = some (.int .i64 (-6))) ∧ Hid (∀ j, k ≤ j → j < m → ∃ x, wr.cell? ⟨gc, j, none⟩ = some x) ∧ Hid (0 < m → ∀ j, wr.frozen? ⟨gc, j, none⟩ = false) ∧ Hid (But gc w6 wr)) (fun i _ => m - (intOf i).toNat)
      case atStart => exact ⟨0, by omega, rfl, fun j hj => absurd hj (by omega), EC6, FC6, But.refl _ _⟩
      case round =>
        obtain ⟨k, hk, rfl, h5, hx, hf, hB⟩ := hrel
        by_cases hlt : k < m
        · obtain ⟨rfl, _, _⟩ := GC.out (by omega)
          obtain ⟨x, x0⟩ := hx.out k (Nat.le_refl _) hlt
          have f0 := hf.out (by omega) k
          have ka : (0 : Int) ≤ (k : Int) := by omega
          have kb : (k : Int) < (m : Int) := by omega
          have H5 : Hid (∀ j, j < k + 1 → (wr.setCell ⟨gc, k, none⟩ (.int .i64 (-6))).cell? ⟨gc, j, none⟩ = some (.int .i64 (-6))) := fun j hj => by
            by_cases e : j = k
            · subst e; exact World.cell?_setCell_same _ _ _ x0
            · rw [World.cell?_setCell_other _ _ _ _ (by intro e'; injection e' with e1 e2; omega)]; exact h5.out j (by omega)
          have HX : Hid (∀ j, k + 1 ≤ j → j < m → ∃ x, (wr.setCell ⟨gc, k, none⟩ (.int .i64 (-6))).cell? ⟨gc, j, none⟩ = some x) := fun j hj hj2 => by
            rw [World.cell?_setCell_other _ _ _ _ (by intro e'; injection e' with e1 e2; omega)]; exact hx.out j (by omega) hj2
          have HF : Hid (0 < m → ∀ j, (wr.setCell ⟨gc, k, none⟩ (.int .i64 (-6))).frozen? ⟨gc, j, none⟩ = false) := fun h j => by rw [World.frozen?_setCell]; exact hf.out h j
          have HB := hid (hB.out.trans (But.setCell gc k wr (.int .i64 (-6))))
          clear h5 hx hf hB
          go_wp2
          go_roundw
          case rel => exact ⟨k + 1, by omega, by go_num, H5, HX, HF, HB⟩
          case measure => simp [intOf]; omega
        · obtain rfl : k = m := by omega
          rename World => w7
          have B7 := hB
          have A7 : Hid (HoldsN w7 ao n n (List.replicate n (-5))) := holds_rep (g := ga) (by omega) (fun h => (GA.out h).1) NA.out (fun h => cell_lt (B7.out.cell (V5.out 0 h) NE.out.2.2.1)) (fun j hj => B7.out.cell (V5.out j hj) NE.out.2.2.1)
          have C7 : Hid (HoldsN w7 co k k (List.replicate k (-6))) := holds_rep (g := gc) (by omega) (fun h => (GC.out h).1) NC.out (fun h => cell_lt (h5.out 0 h)) (fun j hj => h5.out j hj)
          have Bb7 : Hid (HoldsN w7 bo n n FL) := B7.out.holds (B6.out.holds HBb.out (fun x o e hp => by rw [XB.out x o e hp]; exact (NE.out.2.2.2.1 hp).1)) (fun x o e hp => by rw [XB.out x o e hp]; exact (NE.out.2.2.2.1 hp).2)
          have Dd7 : Hid (HoldsN w7 dq k k GL) := B7.out.holds (B6.out.holds HDd.out (fun x o e hp => by rw [XD.out x o e hp]; exact (NE.out.2.2.2.2 hp).1)) (fun x o e hp => by rw [XD.out x o e hp]; exact (NE.out.2.2.2.2 hp).2)
          have hne := NE.out
          have K7 : Hid (Below w.heap.size w w7) := B5.out.trans ((B6.out.bel.mono (by omega)).trans (B7.out.bel.mono (by omega)))
          have N0 := hid (B7.out.cell (B6.out.cell m0.out (by show w.heap.size ≠ ga; omega)) (by show w.heap.size ≠ gc; omega))
          have N1 := hid (B7.out.cell (B6.out.cell m1.out (by show w.heap.size ≠ ga; omega)) (by show w.heap.size ≠ gc; omega))
          clear hx hf hB h5 EC6 FC6 hk V5 B6 B7 HBb HDd XB XD NA NC GA GC NE m0 m1 B5 hne
          go_wp2_with fail
          go_loopw [81, 10, 15] (fun i va vc wr => ∃ q : Nat, q ≤ 9 ∧ i = .int .i64 (q : Int) ∧ Hid (Rows3 w7.heap.size ao co n k q wr va vc) ∧ Hid (Below w7.heap.size w7 wr)) (fun i _ _ _ => 9 - (intOf i).toNat)
          case atStart => exact ⟨0, by omega, rfl, .inl ⟨rfl, rfl, rfl⟩, Below.refl _ _⟩
          case round =>
            obtain ⟨q, hq, rfl, hR, hB⟩ := hrel
            by_cases hlt : q < 9
            · have t9 : decide ((q : Int) < 9) = true := by simp; omega
              rcases hR.out with ⟨rfl, rfl, rfl⟩ | ⟨hq0, la, lc, oa, oc, ⟨x, hx, hx2⟩, y, hy, hy2⟩
              · have A8 := hid (A7.out.below hB.out)
                have C8 := hid (C7.out.below hB.out)
                clear hR
                go_wp2_with (at_builtin; refine push_full wr (-7) rfl (.tmp 83) (.tmp 84) rfl ao n _ rfl A8.out rfl (by omega) ?_)
                intro v1 x1 o1 k1
                have C9 := hid (C8.out.below k1)
                have O1 := hid o1
                have K1 := hid k1
                clear o1 k1
                go_wp2_with (at_builtin; refine push_full x1 (-8) rfl (.tmp 86) (.tmp 87) rfl co k _ rfl C9.out rfl (by omega) ?_)
                intro v2 x2 o2 k2
                have RR : Hid (Rows3 w7.heap.size ao co n k (0 + 1) x2 v1 v2) := .inr ⟨by omega, _, _, (O1.out.below k2).weaken hB.out.size, o2.weaken (Nat.le_trans hB.out.size K1.out.size), rep_first n (-5) (-7), rep_first k (-6) (-8)⟩
                have B9 := hid ((hB.out.trans (K1.out.mono hB.out.size)).trans (k2.mono (Nat.le_trans hB.out.size K1.out.size)))
                clear o2 k2 O1 K1 C8 C9 A8
                go_wp2
                go_roundw
                case rel => exact ⟨0 + 1, by omega, by go_num, RR, B9⟩
                case measure => simp [intOf]
              · have OA := hid oa
                have OC := hid oc
                have HX := hid hx
                have HX2 := hid hx2
                have HY := hid hy
                have HY2 := hid hy2
                clear oa oc hx hx2 hy hy2 hR
                go_wp2_with (at_builtin; refine push_ownN wr (-7) rfl (.tmp 83) (.tmp 84) rfl w7.heap.size (n + q) u10 la rfl OA.out hB.out.size rfl (by omega) ?_)
                intro v1 x1 o1 k1 g1
                have OC1 := hid (own_far OC.out g1 (own_first OC.out OA.out HY.out HX.out (by have := HX2.out; have := HY2.out; omega)))
                have O1 := hid o1
                have K1 := hid (hB.out.trans k1)
                clear o1 k1 g1
                go_wp2_with (at_builtin; refine push_ownN x1 (-8) rfl (.tmp 86) (.tmp 87) rfl w7.heap.size (k + q) u15 lc rfl OC1.out K1.out.size rfl (by omega) ?_)
                intro v2 x2 o2 k2 g2
                have OA2 := own_far O1.out g2 (own_first O1.out OC1.out (cons_first HX.out) HY.out (by have := HX2.out; have := HY2.out; omega))
                have RR : Hid (Rows3 w7.heap.size ao co n k (q + 1) x2 v1 v2) := .inr ⟨by omega, _, _, OA2, o2, ⟨x, cons_first HX.out, HX2.out⟩, y, cons_first HY.out, HY2.out⟩
                have B9 := hid (K1.out.trans k2)
                clear o2 k2 g2 O1 K1 OA OC OC1 OA2 HX HX2 HY HY2
                go_wp2
                go_roundw
                case rel => exact ⟨q + 1, by omega, by go_num, RR, B9⟩
                case measure => simp [intOf]; omega
            · have t9 : decide ((q : Int) < 9) = false := by simp; omega
              rename World => w8
              have B8 := hid (K7.out.trans (hB.out.mono K7.out.size))
              have n0 := keepc hB.out N0.out
              have n1 := keepc hB.out N1.out
              have Bb8 := hid (Bb7.out.below hB.out)
              have Dd8 := hid (Dd7.out.below hB.out)
              clear hB hR Bb7 Dd7 A7 C7 N0 N1 K7
              go_wp2_with fail
              refine (RN.out _ B8.out).mono ?_
              rintro e w9 ⟨xa, xc, rfl, hxa, b9⟩
              have XA := hid hxa
              have Bb9 := hid (Bb8.out.below b9)
              have Dd9 := hid (Dd8.out.below b9)
              have B9 := hid (B8.out.trans (b9.mono B8.out.size))
              clear b9 hxa Bb8 Dd8 n0 n1 RN
              go_wp2_with fail
              refine (RF.out _ B9.out).mono ?_
              rintro e w10 ⟨ya, yc, rfl, hya, b10⟩
              have YA := hid hya
              have XA2 := hid (XA.out.below b10)
              have Bb10 := hid (Bb9.out.below b10)
              have Dd10 := hid (Dd9.out.below b10)
              have B10 := hid (B9.out.trans (b10.mono B9.out.size))
              clear b10 hya Bb9 Dd9 RF XA
              have I1 := hid (ints_any bo xa n n xc FL w10 Bb10.out XA2.out (by omega))
              go_wp2_with fail
              refine I1.out.mono ?_
              rintro e w11 ⟨rfl, b11⟩
              have I2 := hid (ints_any dq ya k k yc GL w11 (Dd10.out.below b11) (YA.out.below b11) (by omega))
              have B11 := hid (B10.out.trans (b11.mono B10.out.size))
              clear b11 I1 Bb10 Dd10 XA2 YA
              go_wp2_with fail
              refine I2.out.mono ?_
              rintro e w12 ⟨rfl, b12⟩
              have B12 := hid (B11.out.trans (b12.mono B11.out.size))
              clear b12
              go_wp2
              go_ret
              exact ⟨rfl, B12.out⟩

theorem own : ownKnob Try.prog.godebug = none := by kernel_rfl
theorem laidOut : laidOutB Try.prog = true := by kernel_rfl

set_option maxRecDepth 100000 in
theorem lifted (os : Os) (started : os.Started) (H : Type) (enc : TypeId × Value → H) :
    ReturnsInHanded {} Try.checked os 8 .any (Rows.placeApartSpec.pre6 enc Try.prog Try.f8 Rows.placeApartRow.domain false) (Rows.placeApartSpec.post enc Try.prog Try.f8 false true false false) := by
  refine returnsInHanded_of_change (C := Try.checked) own started (by kernel_rfl) Try.func8
    (ChangeSpec.witness6 (enc := enc) (C := Try.checked) false ⟨#[], #[.slice none 0 0, .slice none 0 0, .agg #[.int .i64 0, .int .i64 0], .int .i64 0], []⟩ 8 (by kernel_rfl) (by kernel_rfl) (by kernel_rfl) (by kernel_rfl)) ?_
  intro W base args ds gs before hval0 hW hcnd _
  have hval : ∀ (j : Nat) t v, Try.f8.params[j]? = some t → args[j]? = some v → Value.okWide Try.prog W .any base t v := hval0
  have hW' := hW
  obtain ⟨p, q, hA0, hV, rfl, hfz, hnd⟩ := hW
  have hA : DataW.TrodAll enc Try.prog W 0 (fun _ => true) true Try.f8.params.toList args.toList ds p := hA0
  rw [Try.params8] at hA hval
  obtain ⟨v0, vs0, d0, ds0, p0, q0, hargs, rfl, rfl, h0, r0⟩ := trodAll_cons hA
  obtain ⟨v1, vs1, d1, ds1, p1, q1, rfl, rfl, rfl, h1, r1⟩ := trodAll_cons r0
  obtain ⟨v2, vs2, d2, ds2, p2, q2, rfl, rfl, rfl, h2, r2⟩ := trodAll_cons r1
  obtain ⟨v3, vs3, d3, ds3, p3, q3, rfl, rfl, rfl, h3, r3⟩ := trodAll_cons r2
  obtain ⟨rfl, rfl, rfl⟩ := trodAll_nil r3
  obtain rfl : args = #[v0, v1, v2, v3] := by cases args; simp_all
  obtain ⟨rfl, rfl⟩ := trodVars_none hV
  have lt0 : ∀ x ∈ p0, x.block < W.heap.size := by obtain ⟨m, hm⟩ := h0; exact DataW.trod_lt m _ _ _ hm
  have lt1 : ∀ x ∈ p1, x.block < W.heap.size := by obtain ⟨m, hm⟩ := h1; exact DataW.trod_lt m _ _ _ hm
  have lt2 : ∀ x ∈ p2, x.block < W.heap.size := by obtain ⟨m, hm⟩ := h2; exact DataW.trod_lt m _ _ _ hm
  have lt3 : ∀ x ∈ p3, x.block < W.heap.size := by obtain ⟨m, hm⟩ := h3; exact DataW.trod_lt m _ _ _ hm
  obtain ⟨a0, len0, cap0, rfl⟩ := okWide_slice Try.underlying22 (hval 0 22 v0 rfl rfl)
  obtain ⟨z0, w0, k0, dr0⟩ := val_rowE (k := 5) (en := Nd.cs) (ok := Nd.ok) Try.underlying22 (by kernel_rfl) Nd.cs_len (by decide) (fun _ _ _ h => trod_node h) h0
  obtain ⟨a1, len1, cap1, rfl⟩ := okWide_slice Try.underlying23 (hval 1 23 v1 rfl rfl)
  obtain ⟨z1, w1, k1, dr1, nest1⟩ := val_rowL Try.underlying23 h1
  obtain ⟨a2_0, a2_1, rfl, w2_0, w2_1⟩ := val_vec2 Try.underlying25 Try.underlying2 Try.underlying2 (by kernel_rfl) (by kernel_rfl) (hval 2 25 v2 rfl rfl) h2
  obtain ⟨a3, rfl, w3⟩ := val_i64 Try.underlying3 (hval 3 3 v3 rfl rfl) h3
  clear hA0 hval0
  refine (walk a0 len0 cap0 z0 a1 len1 cap1 z1 a2_0 a2_1 a3 W w0 k0 w1 k1 w2_0 w2_1 w3).mono fun e W' ⟨he, bel⟩ => ?_
  subst he
  exact ⟨_, rfl, _, _, _, [], _, [], hW', trodAll_mk1 (shut_bool Try.underlying4 _), (trodAll_cons_mk (Below.trod laidOut (by kernel_rfl) (of_decide_eq_true (by kernel_rfl)) h0 bel lt0) (trodAll_cons_mk (Below.trod laidOut (by kernel_rfl) (of_decide_eq_true (by kernel_rfl)) h1 bel lt1) (trodAll_cons_mk (Below.trod laidOut (by kernel_rfl) (of_decide_eq_true (by kernel_rfl)) h2 bel lt2) (trodAll_cons_mk (Below.trod laidOut (by kernel_rfl) (of_decide_eq_true (by kernel_rfl)) h3 bel lt3) trodAll_mk0)))), rfl, bel.frame _, fun h => by cases h⟩

theorem over : Rows.placeApartRow.holds Try.pinned (OpenSpec.ofChange Rows.placeApartSpec) :=
  OpenClaim.holds_of_wide 8 Try.f8 rfl rfl rfl rfl rfl rfl rfl ⟨rfl, rfl, rfl, rfl, rfl⟩ rfl rfl rfl rfl rfl (by kernel_rfl) Try.func8 (by kernel_rfl)
    (of_decide_eq_true (by kernel_rfl)) (by unfold Func.isWrapper; first | (rw [if_pos (by decide +kernel)]; kernel_rfl) | (rw [if_neg (by decide +kernel)]; exact ⟨rfl, rfl⟩))
    (fun os started H enc _ => lifted os started H enc)

theorem proved : Rows.PlaceApartSaid := over

end Go.Proofs.Ytikalkigmnipiaa.placeApart
