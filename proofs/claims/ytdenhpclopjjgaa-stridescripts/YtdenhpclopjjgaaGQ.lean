/-
  The document's stride: places, levels.
-/
import Derived.Test.YtdenhpclopjjgaaGP
namespace Go.Proofs.Ytdenhpclopjjgaa
open Go.RowKit Go.Deep Go.Maps
set_option linter.unusedVariables false
set_option linter.unusedSimpArgs false
attribute [local go_sem ↓] appC_eq

theorem infoR : (Try.prog.info? 61).map (fun i => (i.zero, i.size, i.bytes)) = some (some (.agg #[.int .i64 0, .int .i64 0, .int .i64 0]), 3, 24) := by kernel_rfl
abbrev OwnR (base : Nat) (w : World) (v : Value) (n : Nat) (l : List Cl) : Prop := OwnE 61 3 Cl.cs base w v n l
abbrev boxR (q : Cl) : Obj := .cells #[.int .i64 q.id, .int .i64 q.tk, .int .i64 q.ps] 61

theorem rstride_any (t : Int) (h1 : 1 ≤ t) (h2 : t ≤ 16) (w : World) : Calls Try.prog 35 #[.int .i64 t] w fun e w' => e = .returned (.int .i64 (stv t)) ∧ w = w' := by
  have hq := stv_tdiv h1 h2
  have hp := stv_pos h1 h2
  have hw : IntKind.i64.wrap (stv t) = stv t := by rw [IntKind.wrap_i64]; omega
  have hz : ¬ (t = 0) := by omega
  go_enter Try.func35, Try.ntmps35
  go_wp2
  go_ret
  exact ⟨rfl, rfl⟩
theorem right_any (t : Int) (w : World) : Calls Try.prog 34 #[.int .i64 t] w fun e w' => e = .returned (.bool (tkOk t)) ∧ w = w' := by
  by_cases h1 : 1 ≤ t
  · have t1 : decide (1 ≤ t) = true := by simp; omega
    have E : Hid (decide (t ≤ 16) = tkOk t) := by simp [Hid, tkOk, h1]
    go_enter Try.func34, Try.ntmps34
    go_wp2
    go_ret
    exact ⟨retb E.out, rfl⟩
  · have t1 : decide (1 ≤ t) = false := by simp; omega
    have E : Hid (false = tkOk t) := by simp [Hid, tkOk, h1]
    go_enter Try.func34, Try.ntmps34
    go_wp2
    go_ret
    exact ⟨retb E.out, rfl⟩

/-- Where a client stands; -1. -/
def plc (l : List Cl) (x : Int) : Int := if hs l x then (sk l x : Int) else -1
set_option maxRecDepth 100000 in
set_option maxHeartbeats 4000000 in
theorem rplace_any (a : Option Addr) (len cap : Nat) (l : List Cl) (x : Int) (w : World) (h : HoldsC w a len cap l) (hg : Gr l) :
    Calls Try.prog 33 #[.slice a len cap, .int .i64 x] w fun e w' => e = .returned (.int .i64 (plc l x)) ∧ Below w.heap.size w w' := by
  have HH := hid h
  have HL := hid h.1
  have GR := hid hg
  have hle : len ≤ 1024 := by rw [← h.1]; exact hg.len
  have hcap := h.2.1
  clear h hg
  go_enter Try.func33, Try.ntmps33
  go_wp2_with fail
  go_loopw [9] (fun v wr => ∃ k : Nat, k ≤ len ∧ v = .int .i64 (k : Int) ∧ Hid (∀ i, i < k → (ca l i).id ≠ x) ∧ Hid (Below w.heap.size w wr)) (fun v _ => len - (intOf v).toNat)
  case atStart => exact ⟨0, by omega, rfl, fun i hi => by omega, Below.refl _ _⟩
  case round =>
    obtain ⟨k, hk, rfl, hn, hB⟩ := hrel
    by_cases hlt : k < len
    · have hlt' : k < l.length := by rw [HL.out]; exact hlt
      obtain ⟨b, off, rfl, _, R⟩ := HH.out.rowC (by omega)
      obtain ⟨c0, c1, c2⟩ := R k hlt
      replace c0 := keepc hB.out c0
      replace c1 := keepc hB.out c1
      replace c2 := keepc hB.out c2
      clear R
      have ka : (0 : Int) ≤ (k : Int) := by omega
      have kb : (k : Int) < (len : Int) := by omega
      by_cases he : (ca l k).id = x
      · have tq : ((ca l k).id == x) = true := by simpa using he
        have PE : Hid (plc l x = (k : Int)) := by
          have h2 : hs l x = true := (hs_iff GR.out.ids).2 ⟨k, hlt', he⟩
          have h1 : sk l x = k := by rw [← he]; exact sk_of GR.out.ids hlt'
          unfold Hid plc
          rw [if_pos h2, h1]
        clear he hn
        generalize (ca l k).id = i0 at *
        generalize (ca l k).tk = i1 at *
        generalize (ca l k).ps = i2 at *
        have B4 : Hid (Below w.heap.size w (wr.alloc (boxR ⟨i0, i1, i2⟩))) := hB.out.alloc hB.out.size _
        go_wp2
        go_ret
        rw [PE.out]
        exact ⟨rfl, B4.out⟩
      · have tq : ((ca l k).id == x) = false := by simpa using he
        have HN : Hid (∀ i, i < k + 1 → (ca l i).id ≠ x) := by
          intro i hi
          rcases Nat.lt_or_ge i k with h | h
          · exact hn.out i h
          · obtain rfl : i = k := by omega
            exact he
        clear he hn
        generalize (ca l k).id = i0 at *
        generalize (ca l k).tk = i1 at *
        generalize (ca l k).ps = i2 at *
        have B4 : Hid (Below w.heap.size w (wr.alloc (boxR ⟨i0, i1, i2⟩))) := hB.out.alloc hB.out.size _
        go_wp2
        go_roundw
        case rel => exact ⟨k + 1, by omega, by go_num, HN, B4⟩
        case measure => simp [intOf]; omega
    · have PE : Hid (plc l x = -1) := by
        unfold Hid plc
        rw [if_neg]
        intro h2
        obtain ⟨i, hi, e⟩ := (hs_iff GR.out.ids).1 h2
        exact hn.out i (by rw [HL.out] at hi; omega) e
      go_wp2
      go_ret
      rw [PE.out]
      exact ⟨rfl, hB.out⟩

/-- 'append(m, x)', one client more. -/
theorem push_run (ty : TypeId) (base n sz : Nat) (w : World) (v : Value) (l : List Cl) (x : Cl) (hown : OwnR base w v n l) (hb : base ≤ w.heap.size) (hn : n ≤ 2000000) (hsz : w.heap.size = sz) :
    ∃ a' cap' w', (appC #[26, 26] ty #[v, .slice (some ⟨sz, 0, none⟩) 1 1]).run Try.prog (w.alloc (boxR x)) = .ok (.slice a' (n + 1) cap') w' ∧ OwnR base w' (.slice a' (n + 1) cap') (n + 1) (l ++ [x]) ∧ Below base w w' ∧ (∀ k, k < w.heap.size → some k ≠ v.ownBlock → w'.heap[k]? = w.heap[k]?) := by
  subst hsz
  obtain ⟨i0, hi, hz0, hz1, hz2⟩ := info_parts infoR
  obtain ⟨v', w', hrun, h2, h3, _⟩ := run_append_own (P := Try.prog) (w.alloc (boxR x)) base 26 ty 61 i0 _ 3 24 Try.underlying26 hi hz0 hz1 hz2 rfl (by decide) v n _ (hown.2.alloc _) ⟨w.heap.size, 0, none⟩ 1 1 x.cs (by rw [Cl.cs_len]) (by
    intro j u hj
    rw [Addr.add_lit, Nat.zero_add, cell_of_row _ w.heap.size j _ _ (0, 0) (heap_alloc_new w _), ← Array.getElem?_toList]
    exact hj) x.one (by unfold maxLen; omega) (by omega) (by simp; omega)
  have hO : OwnR base w' v' (n + 1) (l ++ [x]) := ⟨by simp [hown.len], by simpa using h2⟩
  obtain ⟨a', cap', rfl⟩ := hO.form
  exact ⟨a', cap', w', hrun, hO, ((Below.refl base w).alloc hb _).grown h3 (by simp; omega) (fun k e => (hown.lt k e).1), fun k hk hne => (h3.block k (by simp; omega) hne).trans (Below.heap_alloc _ _ _ hk)⟩

/-- The least of x and the first q passes. -/
def mnf (l : List Cl) (x : Int) : Nat → Int
  | 0 => x
  | q + 1 => if (ca l q).ps < mnf l x q then (ca l q).ps else mnf l x q
theorem mnf_le (l : List Cl) (x : Int) (q : Nat) : mnf l x q ≤ x ∧ ∀ i, i < q → mnf l x q ≤ (ca l i).ps := by
  induction q with
  | zero => exact ⟨Int.le_refl _, fun i h => by omega⟩
  | succ q ih =>
    unfold mnf
    refine ⟨by split <;> omega, fun i hi => ?_⟩
    rcases Nat.lt_or_ge i q with h | h
    · have := ih.2 i h; split <;> omega
    · obtain rfl : i = q := by omega
      split <;> omega
theorem mnf_is (l : List Cl) (x : Int) (q : Nat) : mnf l x q = x ∨ ∃ i, i < q ∧ mnf l x q = (ca l i).ps := by
  induction q with
  | zero => exact .inl rfl
  | succ q ih =>
    unfold mnf
    split
    · exact .inr ⟨q, by omega, rfl⟩
    · rcases ih with h | ⟨i, hi, h⟩
      · exact .inl h
      · exact .inr ⟨i, by omega, h⟩
theorem mnf_low {l : List Cl} {k : Nat} (hk : k < l.length) : mnf l (ca l k).ps l.length = low l := by
  have h1 := mnf_le l (ca l k).ps l.length
  have h2 := h1.2 _ (bs_lt (by omega))
  rcases mnf_is l (ca l k).ps l.length with h | ⟨i, hi, h⟩
  · have := low_le hk
    unfold low at *
    omega
  · have := low_le hi
    unfold low at *
    omega

set_option maxRecDepth 100000 in
set_option maxHeartbeats 8000000 in
theorem level_any (a : Option Addr) (len cap : Nat) (l : List Cl) (w : World) (h : HoldsC w a len cap l) (hle : len ≤ 1024) (hps : ∀ i, i < l.length → 0 ≤ (ca l i).ps ∧ (ca l i).ps ≤ 2000000) :
    Calls Try.prog 36 #[.slice a len cap] w fun e w' => ∃ a' cap', e = .returned (.slice a' len cap') ∧ HoldsC w' a' len cap' (lev l) ∧ Below w.heap.size w w' ∧ ∀ x o, a' = some ⟨x, o, none⟩ → w.heap.size ≤ x ∧ x < w'.heap.size := by
  have HH := hid h
  have HL := hid h.1
  have HP := hid hps
  have hcap := h.2.1
  clear h hps
  go_enter Try.func36, Try.ntmps36
  go_wp2_with fail
  go_loopw [3, 11] (fun u v wr => ∃ (k : Nat) (am : Option Addr) (cm : Nat), k ≤ len ∧ u = .slice am k cm ∧ v = .int .i64 (k : Int) ∧ Hid (OwnR w.heap.size wr (.slice am k cm) k ((lev l).take k)) ∧ Hid (Below w.heap.size w wr)) (fun _ v _ => len - (intOf v).toNat)
  case atStart => exact ⟨0, none, 0, by omega, rfl, rfl, OwnE.nil _ _ _ _ _, Below.refl _ _⟩
  case round =>
    rename World => wo
    obtain ⟨k, am, cm, hk, rfl, rfl, hO, hB⟩ := hrel
    by_cases hlt : k < len
    · have hlt' : k < l.length := by rw [HL.out]; exact hlt
      obtain ⟨b, off, rfl, hbl, R⟩ := HH.out.rowC (by omega)
      obtain ⟨c0, c1, c2⟩ := R k hlt
      have RR := hid R
      replace c0 := keepc hB.out c0
      replace c1 := keepc hB.out c1
      replace c2 := keepc hB.out c2
      clear R
      have ka : (0 : Int) ≤ (k : Int) := by omega
      have kb : (k : Int) < (len : Int) := by omega
      have ML : Hid (mnf l (ca l k).ps len = low l) := by rw [← HL.out]; exact mnf_low hlt'
      have NL : Hid ((lev l).take k ++ [⟨(ca l k).id, (ca l k).tk, (ca l k).ps - low l⟩] = (lev l).take (k + 1)) := by
        unfold Hid
        rw [List.take_add_one, ca_get (by rw [lev_len]; exact hlt'), ca_lev hlt']; rfl
      have b0 := HP.out k hlt'
      have bl := HP.out _ (bs_lt (l := l) (by omega))
      have hw : IntKind.i64.wrap ((ca l k).ps - low l) = (ca l k).ps - low l := by unfold low; rw [IntKind.wrap_i64]; omega
      clear b0 bl
      generalize (ca l k).id = i0 at *
      generalize (ca l k).tk = i1 at *
      generalize (ca l k).ps = i2 at *
      have B4 : Hid (Below w.heap.size w (wo.alloc (boxR ⟨i0, i1, i2⟩))) := hB.out.alloc hB.out.size _
      have O4 := hid (hO.out.below ((Below.refl _ wo).alloc (Nat.le_refl _) (boxR ⟨i0, i1, i2⟩)))
      have d0 : (wo.alloc (boxR ⟨i0, i1, i2⟩)).cell? ⟨wo.heap.size, 0, none⟩ = some (.int .i64 i0) := by simp [go_sem]
      have d1 : (wo.alloc (boxR ⟨i0, i1, i2⟩)).cell? ⟨wo.heap.size, 1, none⟩ = some (.int .i64 i1) := by simp [go_sem]
      have d2 : (wo.alloc (boxR ⟨i0, i1, i2⟩)).cell? ⟨wo.heap.size, 2, none⟩ = some (.int .i64 i2) := by simp [go_sem]
      have D0 := hid d0
      have D1 := hid d1
      have D2 := hid d2
      clear d0 d1 d2 hO hB
      go_wp2_with fail
      generalize hW4 : wo.alloc (boxR ⟨i0, i1, i2⟩) = W4 at *
      have Z4 : Hid (wo.heap.size < W4.heap.size) := by rw [← hW4]; simp [Hid]
      clear hW4
      go_loopw [6, 19] (fun u v wr => ∃ q : Nat, q ≤ len ∧ u = .int .i64 (mnf l i2 q) ∧ v = .int .i64 (q : Int) ∧ Hid (Below W4.heap.size W4 wr)) (fun _ v _ => len - (intOf v).toNat)
      case atStart => exact ⟨0, by omega, rfl, rfl, Below.refl _ _⟩
      case round =>
        rename World => wi
        obtain ⟨q, hq, rfl, rfl, hBi⟩ := hrel
        by_cases hlq : q < len
        · obtain ⟨y0, y1, y2⟩ := RR.out q hlq
          have KB := B4.out.trans (hBi.out.mono B4.out.size)
          replace y0 := keepc KB y0
          replace y1 := keepc KB y1
          replace y2 := keepc KB y2
          clear KB
          have MS : Hid (mnf l i2 (q + 1) = if (ca l q).ps < mnf l i2 q then (ca l q).ps else mnf l i2 q) := rfl
          have qa' : (0 : Int) ≤ (q : Int) := by omega
          have qb : (q : Int) < (len : Int) := by omega
          generalize (ca l q).id = j0 at *
          generalize (ca l q).tk = j1 at *
          generalize (ca l q).ps = j2 at *
          generalize mnf l i2 q = mq at *
          have B5 : Hid (Below W4.heap.size W4 (wi.alloc (boxR ⟨j0, j1, j2⟩))) := hBi.out.alloc hBi.out.size _
          go_wp2
          all_goals
            go_roundw
            case rel => exact ⟨q + 1, by omega, by first | (rw [MS.out]; done) | (rw [MS.out]; split <;> (first | rfl | (congr 1; omega))), by go_num, B5⟩
            case measure => simp [intOf]; omega
        · have qn : q = len := by omega
          subst qn
          rw [ML.out]
          have d0 := keepc hBi.out D0.out
          have d1 := keepc hBi.out D1.out
          have d2 := keepc hBi.out D2.out
          have OW := O4.out.below hBi.out
          have hsz : w.heap.size ≤ wi.heap.size := by have := hBi.out.size; have := B4.out.size; omega
          obtain ⟨a', cap', w', hrun, o', b', _⟩ := push_run 26 w.heap.size k wi.heap.size wi _ _ ⟨i0, i1, i2 - low l⟩ OW hsz (by omega) rfl
          rw [NL.out] at o'
          have NO := hid o'
          have NB : Hid (Below w.heap.size w w') := (B4.out.trans (hBi.out.mono B4.out.size)).trans b'
          clear OW o' b' hBi
          generalize low l = lo at *
          go_wp2
          go_roundw
          case rel => exact ⟨k + 1, a', cap', by omega, rfl, by go_num, NO, NB⟩
          case measure => simp [intOf]; omega
    · have kn : k = len := by omega
      subst kn
      have HE := hO.out.holds Cl.cs_len
      rw [List.take_of_length_le (by rw [lev_len, HL.out]; exact Nat.le_refl _)] at HE
      have HE' := hid HE
      clear HE
      go_wp2
      go_ret
      exact ⟨am, cm, rfl, HE'.out, hB.out, fun x o e => hO.out.lt x (by rw [e]; rfl)⟩

end Go.Proofs.Ytdenhpclopjjgaa
