/-
  The document's stride: Join, Leave, Change, Pick.
-/
import Derived.Test.YtdenhpclopjjgaaGQ
namespace Go.Proofs.Ytdenhpclopjjgaa
open Go.RowKit Go.Deep Go.Maps
set_option linter.unusedVariables false
set_option linter.unusedSimpArgs false
attribute [local go_sem ↓] appC_eq

/-- What a call of the document's answers: a list that reads as m. -/
def Reads (a0 : Option Addr) (w : World) (m : List Cl) (v : Value) (w' : World) : Prop := ∃ a cap, v = .slice a m.length cap ∧ HoldsC w' a m.length cap m ∧ Below w.heap.size w w' ∧ ∀ x o, a = some ⟨x, o, none⟩ → (w.heap.size ≤ x ∧ x < w'.heap.size) ∨ a = a0
theorem Reads.of {w w' : World} (a0 : Option Addr) {a : Option Addr} {len cap B : Nat} {m : List Cl} (h : HoldsC w' a len cap m) (hb : Below w.heap.size w w') (hn : ∀ x o, a = some ⟨x, o, none⟩ → B ≤ x ∧ x < w'.heap.size) (hB : w.heap.size ≤ B) : Reads a0 w m (.slice a len cap) w' := by
  obtain rfl := h.1
  exact ⟨a, cap, rfl, h, hb, fun x o e => .inl ⟨Nat.le_trans hB (hn x o e).1, (hn x o e).2⟩⟩

/-- With a client more, of the first k. -/
def jn (l : List Cl) (s : Nat) (c : Cl) (k : Nat) : List Cl := if k ≤ s then l.take k else insC (l.take k) s c
theorem jn_lo {l : List Cl} {s k : Nat} {c : Cl} (hk : k < l.length) (h : k < s) : jn l s c (k + 1) = jn l s c k ++ [ca l k] := by
  unfold jn
  rw [if_pos (by omega), if_pos (by omega), List.take_add_one, ca_get hk]; rfl
theorem jn_at {l : List Cl} {s : Nat} {c : Cl} (hk : s < l.length) : jn l s c (s + 1) = (jn l s c s ++ [c]) ++ [ca l s] := by
  unfold jn
  rw [if_neg (by omega), if_pos (Nat.le_refl _)]
  unfold insC
  rw [List.take_add_one, ca_get hk]
  have h1 : (l.take s).length = s := by rw [List.length_take]; omega
  rw [List.take_append_of_le_length (by omega), List.take_of_length_le (by omega), List.drop_append_of_le_length (by omega), List.drop_of_length_le (by omega)]
  simp
theorem jn_hi {l : List Cl} {s k : Nat} {c : Cl} (hk : k < l.length) (h : s < k) : jn l s c (k + 1) = jn l s c k ++ [ca l k] := by
  unfold jn
  rw [if_neg (by omega), if_neg (by omega)]
  unfold insC
  rw [List.take_add_one, ca_get hk]
  have h1 : (l.take k).length = k := by rw [List.length_take]; omega
  rw [List.take_append_of_le_length (by omega), List.drop_append_of_le_length (by omega)]
  simp
theorem jn_len {l : List Cl} {s k : Nat} {c : Cl} (hk : k ≤ l.length) (hs : s ≤ l.length) : (jn l s c k).length = if k ≤ s then k else k + 1 := by
  unfold jn
  split
  · rw [List.length_take]; omega
  · rw [insC_len (by rw [List.length_take]; omega), List.length_take]; omega

set_option maxRecDepth 100000 in
set_option maxHeartbeats 8000000 in
theorem rjoin_ok (a : Option Addr) (len cap : Nat) (l : List Cl) (id t rm : Int) (w : World) (h : HoldsC w a len cap l) (hg : Gr l) (hi : I64 id) (hE : joinE l id t rm = 0) :
    Calls Try.prog 21 #[.slice a len cap, .int .i64 id, .int .i64 t, .int .i64 rm] w fun e w' => ∃ v, e = .returned (.tuple #[v, .int .i64 0]) ∧ Reads a w (joinM l id t rm) v w' := by
  obtain ⟨q1, q2, q3, q4, q5, q6⟩ := joinE_zero hE
  have PL := hid (rplace_any a len cap l id w h hg)
  have RI := hid (fun W => right_any t W)
  have ST := hid (fun W => rstride_any t q2 q3 W)
  have tk : tkOk t = true := by unfold tkOk; simp [q2, q3]
  rw [tk] at RI
  have p1 : plc l id = -1 := by unfold plc; rw [if_neg (by simp [q1])]
  rw [p1] at PL
  have HH := hid h
  have HL := hid h.1
  have hle : len ≤ 1024 := by rw [← h.1]; exact hg.len
  have hcap := h.2.1
  have JM : Hid (joinM l id t rm = lev (insC l (sk l id) ⟨id, t, rm⟩)) := by unfold Hid joinM; rw [if_pos hE]
  have sp := stv_pos q2 q3
  have PS : Hid (∀ i, i < (insC l (sk l id) ⟨id, t, rm⟩).length → 0 ≤ (ca (insC l (sk l id) ⟨id, t, rm⟩) i).ps ∧ (ca (insC l (sk l id) ⟨id, t, rm⟩) i).ps ≤ 2000000) := by
    intro i hi'
    have hk := sk_le l id
    rw [insC_len hk] at hi'
    rw [ca_ins hk hi']
    split
    · obtain ⟨_, a, b, c, d⟩ := hg.rng i (by omega)
      have := stv_pos a b; omega
    · split
      · simp only; omega
      · obtain ⟨_, a, b, c, d⟩ := hg.rng (i - 1) (by omega)
        have := stv_pos a b; omega
  have SB : Hid (∀ i, i < sk l id → (ca l i).id < id) := fun i hi => sk_before hi
  have SA : Hid (∀ i, sk l id ≤ i → i < l.length → id < (ca l i).id) := fun i h1 h2 => by
    have := sk_from hg.ids h1 h2
    have := hs_no hg.ids q1 h2
    omega
  have SL : Hid (sk l id ≤ l.length) := sk_le l id
  have t1 : decide (rm < 0) = false := by simp; omega
  have t2 : decide (stv t < rm) = false := by simp; omega
  have t3 : decide ((1024 : Int) ≤ (len : Int)) = false := by
    have := h.1
    simp; omega
  have h1024 : len < 1024 := by have := h.1; omega
  clear h hg q1 tk p1 sp q6
  generalize sk l id = s at *
  go_enter Try.func21, Try.ntmps21
  go_wp2_with fail
  refine PL.out.mono ?_
  rintro e w1 ⟨rfl, b1⟩
  have B1 := hid b1
  clear b1
  go_wp2_with fail
  refine (RI.out w1).mono ?_
  rintro e w' ⟨rfl, rfl⟩
  go_wp2_with fail
  refine (ST.out w1).mono ?_
  rintro e w' ⟨rfl, rfl⟩
  clear PL ST RI
  go_wp2_with fail
  go_loopw [10, 11, 42] (fun u x v wr => ∃ (k : Nat) (am : Option Addr) (n cm : Nat), k ≤ len ∧ u = .slice am n cm ∧ x = .bool (decide (s < k)) ∧ v = .int .i64 (k : Int) ∧ Hid (OwnR w.heap.size wr (.slice am n cm) n (jn l s ⟨id, t, rm⟩ k)) ∧ Hid (Below w.heap.size w wr)) (fun _ _ v _ => len - (intOf v).toNat)
  case atStart => exact ⟨0, none, 0, 0, by omega, rfl, by simp, rfl, by
    have : jn l s ⟨id, t, rm⟩ 0 = [] := by unfold jn; rw [if_pos (by omega)]; rfl
    rw [this]; exact OwnE.nil _ _ _ _ _, B1.out⟩
  case round =>
    rename World => wo
    obtain ⟨k, am, n, cm, hk, rfl, rfl, rfl, hO, hB⟩ := hrel
    have hsz : w.heap.size ≤ wo.heap.size := hB.out.size
    have hn := hO.out.len
    rw [jn_len (by rw [HL.out]; exact hk) SL.out] at hn
    by_cases hlt : k < len
    · have hlt' : k < l.length := by rw [HL.out]; exact hlt
      obtain ⟨b, off, rfl, hbl, R⟩ := HH.out.rowC (by omega)
      obtain ⟨c0, c1, c2⟩ := R k hlt
      replace c0 := keepc hB.out c0
      replace c1 := keepc hB.out c1
      replace c2 := keepc hB.out c2
      clear R
      have ka : (0 : Int) ≤ (k : Int) := by omega
      have kb : (k : Int) < (len : Int) := by omega
      rcases Nat.lt_trichotomy k s with hks | hks | hks
      · have t4 : decide (s < k) = false := by simp; omega
        have t4' : decide (s < k + 1) = false := by simp; omega
        have t5 : decide (id < (ca l k).id) = false := by have := SB.out k hks; simp; omega
        have NJ := hid (jn_lo (c := ⟨id, t, rm⟩) hlt' hks)
        rw [if_pos (by omega)] at hn
        subst hn
        generalize hcx : ca l k = x at *
        obtain ⟨i0, i1, i2⟩ := x
        clear hcx
        simp only at c0 c1 c2 t5
        have B4 : Hid (Below w.heap.size w (wo.alloc (boxR ⟨i0, i1, i2⟩))) := hB.out.alloc hB.out.size _
        have O4 := hO.out.below ((Below.refl _ wo).alloc (Nat.le_refl _) (boxR ⟨i0, i1, i2⟩))
        obtain ⟨a', cap', w', hrun, o', b', K'⟩ := push_run 26 w.heap.size k (wo.heap.size + 1) (wo.alloc (boxR ⟨i0, i1, i2⟩)) _ _ ⟨i0, i1, i2⟩ O4 (by simp; omega) (by omega) (by simp)
        rw [← NJ.out] at o'
        have NO := hid o'
        have NB := hid (B4.out.trans b')
        clear O4 o' b' hO hB
        go_wp2
        go_roundw
        case rel => exact ⟨k + 1, a', k + 1, cap', by omega, rfl, by first | (rw [t4', t4]; done) | (rw [t4']; done), by go_num, NO, NB⟩
        case measure => simp [intOf]; omega
      · subst hks
        have t4 : decide (k < k) = false := by simp
        have t4' : decide (k < k + 1) = true := by simp
        have t5 : decide (id < (ca l k).id) = true := by have := SA.out k (Nat.le_refl _) hlt'; simpa using this
        have NJ := hid (jn_at (c := ⟨id, t, rm⟩) hlt')
        rw [if_pos (by omega)] at hn
        subst hn
        generalize hcx : ca l k = x at *
        obtain ⟨i0, i1, i2⟩ := x
        clear hcx
        simp only at c0 c1 c2 t5
        have B4 : Hid (Below w.heap.size w (wo.alloc (boxR ⟨i0, i1, i2⟩))) := hB.out.alloc hB.out.size _
        have O4 := hO.out.below ((Below.refl _ wo).alloc (Nat.le_refl _) (boxR ⟨i0, i1, i2⟩))
        obtain ⟨a', cap', w', hrun, o', b', K'⟩ := push_run 26 w.heap.size k (wo.heap.size + 1) (wo.alloc (boxR ⟨i0, i1, i2⟩)) _ _ ⟨id, t, rm⟩ O4 (by simp; omega) (by omega) (by simp)
        have hs' : w.heap.size ≤ w'.heap.size := (B4.out.trans b').size
        obtain ⟨a2, cap2, w2, hrun2, o2, b2, _⟩ := push_run 26 w.heap.size (k + 1) w'.heap.size w' _ _ ⟨i0, i1, i2⟩ o' hs' (by omega) rfl
        rw [← NJ.out] at o2
        have NO := hid o2
        have NB := hid ((B4.out.trans b').trans b2)
        have d0 : (wo.alloc (boxR ⟨i0, i1, i2⟩)).cell? ⟨wo.heap.size, 0, none⟩ = some (.int .i64 i0) := by simp [go_sem]
        have d1 : (wo.alloc (boxR ⟨i0, i1, i2⟩)).cell? ⟨wo.heap.size, 1, none⟩ = some (.int .i64 i1) := by simp [go_sem]
        have d2 : (wo.alloc (boxR ⟨i0, i1, i2⟩)).cell? ⟨wo.heap.size, 2, none⟩ = some (.int .i64 i2) := by simp [go_sem]
        have BK : w'.heap[wo.heap.size]? = (wo.alloc (boxR ⟨i0, i1, i2⟩)).heap[wo.heap.size]? := K' wo.heap.size (by simp) (fun e => by have := (hO.out.lt _ e.symm).2; omega)
        have x0 : w'.cell? ⟨wo.heap.size, 0, none⟩ = some (.int .i64 i0) := (World.cell?_of_block (w := wo.alloc (boxR ⟨i0, i1, i2⟩)) BK).trans d0
        have x1 : w'.cell? ⟨wo.heap.size, 1, none⟩ = some (.int .i64 i1) := (World.cell?_of_block (w := wo.alloc (boxR ⟨i0, i1, i2⟩)) BK).trans d1
        have x2 : w'.cell? ⟨wo.heap.size, 2, none⟩ = some (.int .i64 i2) := (World.cell?_of_block (w := wo.alloc (boxR ⟨i0, i1, i2⟩)) BK).trans d2
        clear O4 o' b' hO hB o2 b2 K' BK
        go_wp2
        go_roundw
        case rel => exact ⟨k + 1, a2, k + 1 + 1, cap2, by omega, rfl, by first | (rw [t4', t4]; done) | (rw [t4']; done), by go_num, NO, NB⟩
        case measure => simp [intOf]; omega
      · have t4 : decide (s < k) = true := by simpa using hks
        have t4' : decide (s < k + 1) = true := by simp; omega
        have NJ := hid (jn_hi (c := ⟨id, t, rm⟩) hlt' hks)
        rw [if_neg (by omega)] at hn
        subst hn
        generalize hcx : ca l k = x at *
        obtain ⟨i0, i1, i2⟩ := x
        clear hcx
        simp only at c0 c1 c2
        have B4 : Hid (Below w.heap.size w (wo.alloc (boxR ⟨i0, i1, i2⟩))) := hB.out.alloc hB.out.size _
        have O4 := hO.out.below ((Below.refl _ wo).alloc (Nat.le_refl _) (boxR ⟨i0, i1, i2⟩))
        obtain ⟨a', cap', w', hrun, o', b', _⟩ := push_run 26 w.heap.size (k + 1) (wo.heap.size + 1) (wo.alloc (boxR ⟨i0, i1, i2⟩)) _ _ ⟨i0, i1, i2⟩ O4 (by simp; omega) (by omega) (by simp)
        rw [← NJ.out] at o'
        have NO := hid o'
        have NB := hid (B4.out.trans b')
        clear O4 o' b' hO hB
        go_wp2
        go_roundw
        case rel => exact ⟨k + 1, a', k + 1 + 1, cap', by omega, rfl, by first | (rw [t4', t4]; done) | (rw [t4']; done), by go_num, NO, NB⟩
        case measure => simp [intOf]; omega
    · have kn : k = len := by omega
      subst kn
      by_cases hsk : s < k
      · have t4 : decide (s < k) = true := by simpa using hsk
        have JE : jn l s ⟨id, t, rm⟩ k = insC l s ⟨id, t, rm⟩ := by
          unfold jn
          rw [if_neg (by omega), List.take_of_length_le (by rw [HL.out]; exact Nat.le_refl _)]
        rw [JE] at hO
        have LV := hid (level_any am n cm _ wo (hO.out.holds Cl.cs_len) (by rw [← hO.out.len, insC_len SL.out, HL.out]; omega) PS.out)
        clear hO JE
        go_wp2_with fail
        refine LV.out.mono ?_
        rintro e w4 ⟨a4, c4, rfl, h4, b4, n4⟩
        have RD : Hid (Reads a w (joinM l id t rm) (.slice a4 n c4) w4) := by rw [JM.out]; exact Reads.of a h4 (hB.out.trans (b4.mono hB.out.size)) n4 hB.out.size
        clear h4 b4
        go_wp2
        go_ret2
        exact ⟨_, rfl, RD.out⟩
      · have t4 : decide (s < k) = false := by simp; omega
        have sk' : s = k := by have := SL.out; rw [HL.out] at this; omega
        have JE : jn l s ⟨id, t, rm⟩ k ++ [⟨id, t, rm⟩] = insC l s ⟨id, t, rm⟩ := by
          unfold jn
          rw [if_pos (by omega), List.take_of_length_le (by rw [HL.out]; exact Nat.le_refl _)]
          have := insC_end l ⟨id, t, rm⟩
          rw [HL.out, ← sk'] at this
          exact this.symm
        rw [if_pos (by omega)] at hn
        subst hn
        obtain ⟨a', cap', w', hrun, o', b', _⟩ := push_run 26 w.heap.size k wo.heap.size wo _ _ ⟨id, t, rm⟩ hO.out hsz (by omega) rfl
        rw [JE] at o'
        have LV := hid (level_any a' (k + 1) cap' _ w' (o'.holds Cl.cs_len) (by rw [← o'.len, insC_len SL.out, HL.out]; omega) PS.out)
        have NB := hid (hB.out.trans b')
        clear hO JE o' b'
        go_wp2_with fail
        refine LV.out.mono ?_
        rintro e w4 ⟨a4, c4, rfl, h4, b4, n4⟩
        have RD : Hid (Reads a w (joinM l id t rm) (.slice a4 (k + 1) c4) w4) := by rw [JM.out]; exact Reads.of a h4 (NB.out.trans (b4.mono NB.out.size)) n4 NB.out.size
        clear h4 b4
        go_wp2
        go_ret2
        exact ⟨_, rfl, RD.out⟩

theorem Reads.self {w w' : World} {a : Option Addr} {len cap : Nat} {l : List Cl} (h : HoldsC w a len cap l) (hb : Below w.heap.size w w') : Reads a w l (.slice a len cap) w' := by
  obtain rfl := h.1
  exact ⟨a, cap, rfl, h.below hb, hb, fun _ _ _ => .inr rfl⟩
theorem plc_yes {l : List Cl} {x : Int} (h : hs l x = true) : plc l x = (sk l x : Int) := by unfold plc; rw [if_pos h]
theorem plc_no {l : List Cl} {x : Int} (h : hs l x = false) : plc l x = -1 := by unfold plc; rw [if_neg (by simp [h])]

set_option maxRecDepth 100000 in
set_option maxHeartbeats 8000000 in
theorem rjoin_any (a : Option Addr) (len cap : Nat) (l : List Cl) (id t rm : Int) (w : World) (h : HoldsC w a len cap l) (hg : Gr l) (hi : I64 id) :
    Calls Try.prog 21 #[.slice a len cap, .int .i64 id, .int .i64 t, .int .i64 rm] w fun e w' => ∃ v, e = .returned (.tuple #[v, .int .i64 (joinE l id t rm)]) ∧ Reads a w (joinM l id t rm) v w' := by
  by_cases hE : joinE l id t rm = 0
  · rw [hE]
    exact rjoin_ok a len cap l id t rm w h hg hi hE
  · have PL := hid (rplace_any a len cap l id w h hg)
    have HH := hid h
    have hl := h.1
    cases hh : hs l id with
    | true =>
      obtain ⟨E1, E2⟩ := joinE_there (t := t) (r := rm) hh
      rw [plc_yes hh] at PL
      rw [E1, E2]
      have t1 : decide ((0 : Int) ≤ (sk l id : Int)) = true := by simp
      clear hE hh E1 E2 h
      generalize sk l id = s at *
      go_enter Try.func21, Try.ntmps21
      go_wp2_with fail
      refine PL.out.mono ?_
      rintro e w1 ⟨rfl, b1⟩
      have RD := hid (Reads.self HH.out b1)
      clear b1
      go_wp2
      go_ret2
      exact ⟨_, rfl, RD.out⟩
    | false =>
      rw [plc_no hh] at PL
      have RI := hid (fun W => right_any t W)
      by_cases ht : tkOk t = true
      · have tk := tkOk_yes ht
        have ST := hid (fun W => rstride_any t tk.1 tk.2 W)
        have HT := hid ht
        rw [ht] at RI
        by_cases hr0 : rm < 0
        · obtain ⟨E1, E2⟩ := joinE_arg (l := l) (id := id) (t := t) hh (.inr (.inl hr0))
          rw [E1, E2]
          have t1 : decide (rm < 0) = true := by simpa using hr0
          clear hE hh E1 E2 h ht tk hr0
          go_enter Try.func21, Try.ntmps21
          go_wp2_with fail
          refine PL.out.mono ?_
          rintro e w1 ⟨rfl, b1⟩
          go_wp2_with fail
          refine (RI.out w1).mono ?_
          rintro e w' ⟨rfl, rfl⟩
          have RD := hid (Reads.self HH.out b1)
          clear b1
          go_wp2
          go_ret2
          exact ⟨_, rfl, RD.out⟩
        · have t1 : decide (rm < 0) = false := by simpa using hr0
          by_cases hr1 : stv t < rm
          · obtain ⟨E1, E2⟩ := joinE_arg (l := l) (id := id) (t := t) hh (.inr (.inr hr1))
            rw [E1, E2]
            have t2 : decide (stv t < rm) = true := by simpa using hr1
            clear hE hh E1 E2 h ht tk hr0 hr1
            go_enter Try.func21, Try.ntmps21
            go_wp2_with fail
            refine PL.out.mono ?_
            rintro e w1 ⟨rfl, b1⟩
            go_wp2_with fail
            refine (RI.out w1).mono ?_
            rintro e w' ⟨rfl, rfl⟩
            go_wp2_with fail
            refine (ST.out w1).mono ?_
            rintro e w' ⟨rfl, rfl⟩
            have RD := hid (Reads.self HH.out b1)
            clear b1
            go_wp2
            go_ret2
            exact ⟨_, rfl, RD.out⟩
          · have t2 : decide (stv t < rm) = false := by simpa using hr1
            have hfull : l.length = 1024 := Classical.byContradiction fun hn => hE (joinE_ok (l := l) (id := id) (t := t) (r := rm) hh HT.out (by omega) (by omega) hn).1
            obtain ⟨E1, E2⟩ := joinE_full (l := l) (id := id) (t := t) (r := rm) hh HT.out (by omega) (by omega) hfull
            rw [E1, E2]
            have t3 : decide ((1024 : Int) ≤ (len : Int)) = true := by simp; omega
            clear hE hh E1 E2 h ht tk hr0 hr1
            go_enter Try.func21, Try.ntmps21
            go_wp2_with fail
            refine PL.out.mono ?_
            rintro e w1 ⟨rfl, b1⟩
            go_wp2_with fail
            refine (RI.out w1).mono ?_
            rintro e w' ⟨rfl, rfl⟩
            go_wp2_with fail
            refine (ST.out w1).mono ?_
            rintro e w' ⟨rfl, rfl⟩
            have RD := hid (Reads.self HH.out b1)
            clear b1
            go_wp2
            go_ret2
            exact ⟨_, rfl, RD.out⟩
      · have hf : tkOk t = false := by simpa using ht
        rw [hf] at RI
        obtain ⟨E1, E2⟩ := joinE_arg (l := l) (id := id) (t := t) (r := rm) hh (.inl hf)
        rw [E1, E2]
        clear hE hh E1 E2 h ht hf
        go_enter Try.func21, Try.ntmps21
        go_wp2_with fail
        refine PL.out.mono ?_
        rintro e w1 ⟨rfl, b1⟩
        go_wp2_with fail
        refine (RI.out w1).mono ?_
        rintro e w' ⟨rfl, rfl⟩
        have RD := hid (Reads.self HH.out b1)
        clear b1
        go_wp2
        go_ret2
        exact ⟨_, rfl, RD.out⟩

/-- Of the first k, all but the one at s. -/
def dl (l : List Cl) (s k : Nat) : List Cl := if k ≤ s then l.take k else delC (l.take k) s
theorem dl_lo {l : List Cl} {s k : Nat} (hk : k < l.length) (h : k < s) : dl l s (k + 1) = dl l s k ++ [ca l k] := by
  unfold dl
  rw [if_pos (by omega), if_pos (by omega), List.take_add_one, ca_get hk]; rfl
theorem dl_at {l : List Cl} {s : Nat} (hk : s < l.length) : dl l s (s + 1) = dl l s s := by
  unfold dl
  rw [if_neg (by omega), if_pos (Nat.le_refl _)]
  unfold delC
  rw [List.take_take, List.drop_of_length_le (by rw [List.length_take]; omega), List.append_nil]
  congr 1; omega
theorem dl_hi {l : List Cl} {s k : Nat} (hk : k < l.length) (h : s < k) : dl l s (k + 1) = dl l s k ++ [ca l k] := by
  unfold dl
  rw [if_neg (by omega), if_neg (by omega)]
  unfold delC
  have h1 : (l.take k).length = k := by rw [List.length_take]; omega
  rw [List.take_add_one, ca_get hk, List.take_append_of_le_length (by omega), List.drop_append_of_le_length (by omega)]
  simp
theorem dl_len {l : List Cl} {s k : Nat} (hk : k ≤ l.length) (hs : s < l.length) : (dl l s k).length = if k ≤ s then k else k - 1 := by
  unfold dl
  split
  · rw [List.length_take]; omega
  · rw [delC_len (by rw [List.length_take]; omega), List.length_take]; omega

set_option maxRecDepth 100000 in
set_option maxHeartbeats 8000000 in
theorem rleave_any (a : Option Addr) (len cap : Nat) (l : List Cl) (id : Int) (w : World) (h : HoldsC w a len cap l) (hg : Gr l) :
    Calls Try.prog 22 #[.slice a len cap, .int .i64 id] w fun e w' => ∃ v, e = .returned (.tuple #[v, .int .i64 (leaveV l id), .int .i64 (leaveE l id)]) ∧ Reads a w (leaveM l id) v w' := by
  have PL := hid (rplace_any a len cap l id w h hg)
  have HH := hid h
  have HL := hid h.1
  have hle : len ≤ 1024 := by rw [← h.1]; exact hg.len
  have hcap := h.2.1
  cases hh : hs l id with
  | false =>
    rw [plc_no hh] at PL
    have X0 : leaveV l id = 0 := by unfold leaveV; rw [if_neg (by simp [hh])]
    have X1 : leaveE l id = 8 := by unfold leaveE; rw [if_neg (by simp [hh])]
    have X2 : leaveM l id = l := by unfold leaveM; rw [if_neg (by simp [hh])]
    rw [X0, X1, X2]
    clear X0 X1 X2 hh h
    go_enter Try.func22, Try.ntmps22
    go_wp2_with fail
    refine PL.out.mono ?_
    rintro e w1 ⟨rfl, b1⟩
    have RD := hid (Reads.self HH.out b1)
    clear b1
    go_wp2
    refine bodyPost_ret (results_tmp3 rfl _ _ _) rfl ?_
    exact ⟨_, rfl, RD.out⟩
  | true =>
    obtain ⟨hk, he⟩ := hs_yes hh
    rw [plc_yes hh] at PL
    have X0 : leaveV l id = (ca l (sk l id)).ps := by unfold leaveV; rw [if_pos hh]
    have X1 : leaveE l id = 0 := by unfold leaveE; rw [if_pos hh]
    have X2 : leaveM l id = lev (delC l (sk l id)) := by unfold leaveM; rw [if_pos hh]
    rw [X0, X1, X2]
    have PS := hid (hg.del_ps hk)
    have NE : Hid (∀ i, i < l.length → i ≠ sk l id → (ca l i).id ≠ id) := by
      intro i hi hne e
      apply hne
      rw [← e]; exact (sk_of hg.ids hi).symm
    have t1 : decide ((sk l id : Int) < 0) = false := by simp
    rw [HL.out] at hk
    have EQ := hid he
    clear X0 X1 X2 hh h hg he
    generalize sk l id = s at *
    go_enter Try.func22, Try.ntmps22
    go_wp2_with fail
    refine PL.out.mono ?_
    rintro e w1 ⟨rfl, b1⟩
    have B1 := hid b1
    clear b1
    go_wp2_with fail
    go_loopw [8, 19] (fun u v wr => ∃ (k : Nat) (am : Option Addr) (n cm : Nat), k ≤ len ∧ u = .slice am n cm ∧ v = .int .i64 (k : Int) ∧ Hid (OwnR w.heap.size wr (.slice am n cm) n (dl l s k)) ∧ Hid (Below w.heap.size w wr)) (fun _ v _ => len - (intOf v).toNat)
    case atStart => exact ⟨0, none, 0, 0, by omega, rfl, rfl, by
      have : dl l s 0 = [] := by unfold dl; rw [if_pos (by omega)]; rfl
      rw [this]; exact OwnE.nil _ _ _ _ _, B1.out⟩
    case round =>
      rename World => wo
      obtain ⟨k, am, n, cm, hk', rfl, rfl, hO, hB⟩ := hrel
      have hsz : w.heap.size ≤ wo.heap.size := hB.out.size
      have hn := hO.out.len
      rw [dl_len (by rw [HL.out]; exact hk') (by rw [HL.out]; exact hk)] at hn
      by_cases hlt : k < len
      · have hlt' : k < l.length := by rw [HL.out]; exact hlt
        obtain ⟨b, off, rfl, hbl, R⟩ := HH.out.rowC (by omega)
        obtain ⟨c0, c1, c2⟩ := R k hlt
        replace c0 := keepc hB.out c0
        replace c1 := keepc hB.out c1
        replace c2 := keepc hB.out c2
        clear R
        have ka : (0 : Int) ≤ (k : Int) := by omega
        have kb : (k : Int) < (len : Int) := by omega
        by_cases hks : k = s
        · subst hks
          have NJ := hid (dl_at hlt')
          rw [← NJ.out] at hO
          have e0 := EQ.out
          generalize hcx : ca l k = x at *
          obtain ⟨i0, i1, i2⟩ := x
          clear hcx
          simp only at c0 c1 c2 e0
          subst e0
          have tq : (i0 != i0) = false := by simp
          have B4 : Hid (Below w.heap.size w (wo.alloc (boxR ⟨i0, i1, i2⟩))) := hB.out.alloc hB.out.size _
          have O4 := hid (hO.out.below ((Below.refl _ wo).alloc (Nat.le_refl _) (boxR ⟨i0, i1, i2⟩)))
          clear hn
          go_wp2
          go_roundw
          case rel => exact ⟨k + 1, am, n, cm, by omega, rfl, by go_num, O4, B4⟩
          case measure => simp [intOf]; omega
        · have NJ : Hid (dl l s (k + 1) = dl l s k ++ [ca l k]) := by
            rcases Nat.lt_or_ge k s with h | h
            · exact dl_lo hlt' h
            · exact dl_hi hlt' (by omega)
          have ne0 := NE.out k hlt' hks
          have hnb : n ≤ 1024 := by split at hn <;> omega
          generalize hcx : ca l k = x at *
          obtain ⟨i0, i1, i2⟩ := x
          clear hcx hn
          simp only at c0 c1 c2 ne0
          have tq : (i0 != id) = true := by simpa using ne0
          have B4 : Hid (Below w.heap.size w (wo.alloc (boxR ⟨i0, i1, i2⟩))) := hB.out.alloc hB.out.size _
          have O4 := hO.out.below ((Below.refl _ wo).alloc (Nat.le_refl _) (boxR ⟨i0, i1, i2⟩))
          obtain ⟨a', cap', w', hrun, o', b', _⟩ := push_run 26 w.heap.size n (wo.heap.size + 1) (wo.alloc (boxR ⟨i0, i1, i2⟩)) _ _ ⟨i0, i1, i2⟩ O4 (by simp; omega) (by omega) (by simp)
          rw [← NJ.out] at o'
          have NO := hid o'
          have NB := hid (B4.out.trans b')
          clear O4 o' b' hO hB ne0
          go_wp2
          go_roundw
          case rel => exact ⟨k + 1, a', n + 1, cap', by omega, rfl, by go_num, NO, NB⟩
          case measure => simp [intOf]; omega
      · have kn : k = len := by omega
        subst kn
        have DE : dl l s k = delC l s := by
          unfold dl
          rw [if_neg (by omega), List.take_of_length_le (by rw [HL.out]; exact Nat.le_refl _)]
        rw [if_neg (by omega)] at hn
        rw [DE] at hO
        have LV := hid (fun W (hW : Below wo.heap.size wo W) => level_any am n cm _ W ((hO.out.holds Cl.cs_len).below hW) (by omega) PS.out)
        obtain ⟨b, off, rfl, hbl, R⟩ := HH.out.rowC (by omega)
        obtain ⟨_, _, c2⟩ := R s hk
        replace c2 := keepc hB.out c2
        have C2 := hid c2
        have sa : (0 : Int) ≤ (s : Int) := by omega
        have sb : (s : Int) < (k : Int) := by omega
        clear hO DE R hn
        generalize hpv : (ca l s).ps = psv at c2 C2
        have HPV := hid hpv
        clear hpv
        go_wp2_with fail
        go_region_with (refine (LV.out _ (by first | exact Below.refl _ _ | exact (Below.refl _ _).drew)).mono ?_; rintro e w4 ⟨a4, c4, rfl, h4, b4, n4⟩; have y2 := (keepc b4 C2.out))
        all_goals go_wp2
        all_goals
          refine bodyPost_ret (results_tmp3 rfl _ _ _) rfl ?_
          refine ⟨.slice a4 n c4, ?_, Reads.of _ h4 (hB.out.trans ((Below.trans (B := wo.heap.size) ((Below.refl _ wo).drew) b4).mono hB.out.size)) n4 (by first | exact hB.out.size | (show w.heap.size ≤ wo.heap.size; exact hB.out.size))⟩
          rw [HPV.out]
          first
            | rfl
            | simp [Act.put]

end Go.Proofs.Ytdenhpclopjjgaa
