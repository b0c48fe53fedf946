/-
  The document's stride: Change, Pick.
-/
import Derived.Test.YtdenhpclopjjgaaGR
namespace Go.Proofs.Ytdenhpclopjjgaa
open Go.RowKit Go.Deep Go.Maps
set_option linter.unusedVariables false
set_option linter.unusedSimpArgs false
attribute [local go_sem ↓] appC_eq

/-- 'append([]Client{}, l...)'. -/
theorem copy_run (ty : TypeId) (sz m c : Nat) (w : World) (ao : Option Addr) (p : List Cl) (hp : HoldsC w ao m c p) (hm : m ≤ 1024) (hsz : w.heap.size = sz) :
    ∃ a' cap' w', (appC #[26, 26] ty #[.slice (some ⟨sz, 0, none⟩) 0 0, .slice ao m c]).run Try.prog (w.alloc (.cells #[] 61)) = .ok (.slice a' m cap') w' ∧ OwnR w.heap.size w' (.slice a' m cap') m p ∧ Below w.heap.size w w' := by
  subst hsz
  obtain ⟨i0, hi, hz0, hz1, hz2⟩ := info_parts infoR
  have hb1 : Below w.heap.size w (w.alloc (.cells #[] 61)) := (Below.refl _ _).alloc (Nat.le_refl _) _
  have hown : OwnR w.heap.size (w.alloc (.cells #[] 61)) (.slice (some ⟨w.heap.size, 0, none⟩) 0 0) 0 [] := OwnE.lit _ _ _ _
  have hp' := hp.below hb1
  obtain ⟨p1, p2, p3, p6, p7⟩ := hp'
  have key : ∀ (ad : Addr), ao = some ad → (∀ j u, (p.flatMap Cl.cs)[j]? = some u → (w.alloc (.cells #[] 61)).cell? (ad.add j) = some u) → ∃ a' cap' w', (appC #[26, 26] ty #[.slice (some ⟨w.heap.size, 0, none⟩) 0 0, .slice ao m c]).run Try.prog (w.alloc (.cells #[] 61)) = .ok (.slice a' m cap') w' ∧ OwnR w.heap.size w' (.slice a' m cap') m p ∧ Below w.heap.size w w' := by
    rintro ad rfl hc
    obtain ⟨v', w', hrun, h2, h3, _⟩ := run_append_own (P := Try.prog) (w.alloc (.cells #[] 61)) w.heap.size 26 ty 61 i0 _ 3 24 Try.underlying26 hi hz0 hz1 hz2 rfl (by decide) (.slice (some ⟨w.heap.size, 0, none⟩) 0 0) 0 _ hown.2 ad m c (p.flatMap Cl.cs) (by rw [flat_len Cl.cs_len, p1]) hc (fun u hu => by
      obtain ⟨x, _, hx⟩ := List.mem_flatMap.1 hu
      exact x.one u hx) (by unfold maxLen; omega) (by omega) (by simp)
    have hO : OwnR w.heap.size w' v' m p := by
      have : OwnR w.heap.size w' v' (0 + m) ([] ++ p) := ⟨by simp [p1], by simpa using h2⟩
      simpa using this
    obtain ⟨a', cap', rfl⟩ := hO.form
    exact ⟨a', cap', w', hrun, hO, hb1.grown h3 (by simp) (fun k e => (hown.lt k e).1)⟩
  by_cases hm0 : 0 < m
  · obtain ⟨b, off, rfl, hlt, hc⟩ := p7 hm0
    refine key _ rfl (fun j u hj => ?_)
    obtain ⟨j', x, i, rfl, hx, hu⟩ := flat_inv Cl.cs_len _ _ _ hj
    rw [Addr.add_lit, ← Nat.add_assoc]
    exact hc j' x hx i u hu
  · obtain rfl : m = 0 := by omega
    obtain rfl : p = [] := List.length_eq_zero_iff.1 p1
    cases ao with
    | none =>
      obtain ⟨_, rfl⟩ := p6 rfl
      have hrun := run_append_owned_none (P := Try.prog) (w := w.alloc (.cells #[] 61)) w.heap.size 26 ty 61 i0 3 Try.underlying26 hi (.slice (some ⟨w.heap.size, 0, none⟩) 0 0) 0 _ hown.2
      exact ⟨_, 0, _, hrun, hown, hb1⟩
    | some ad => exact key ad rfl (fun j u hj => by simp at hj)

theorem set_at {l : List Cl} {i j : Nat} {x y : Cl} (h : (l.set i x)[j]? = some y) : (j = i ∧ y = x ∧ i < l.length) ∨ (j ≠ i ∧ l[j]? = some y) := by
  by_cases e : i = j
  · subst e
    have hl : i < l.length := by have := (List.getElem?_eq_some_iff.1 h).1; rwa [List.length_set] at this
    rw [List.getElem?_set_self hl] at h
    cases h
    exact .inl ⟨rfl, rfl, hl⟩
  · rw [List.getElem?_set_ne e] at h
    exact .inr ⟨fun h => e h.symm, h⟩
/-- A client replaced whole. -/
theorem holds_set3 {w : World} {g n cap i : Nat} {l : List Cl} (h : HoldsC w (some ⟨g, 0, none⟩) n cap l) (hi : i < n) (x : Cl) :
    HoldsC (((w.setCell ⟨g, i * 3, none⟩ (.int .i64 x.id)).setCell ⟨g, i * 3 + 1, none⟩ (.int .i64 x.tk)).setCell ⟨g, i * 3 + 2, none⟩ (.int .i64 x.ps)) (some ⟨g, 0, none⟩) n cap (l.set i x) := by
  obtain ⟨h1, h2, h3, h4, h5⟩ := h
  obtain ⟨b, off, e, hlt, hc⟩ := h5 (by omega)
  cases e
  have hh := hc i _ (ca_get (by omega))
  have d0 : w.cell? ⟨g, i * 3, none⟩ = some (.int .i64 (ca l i).id) := by have := hh 0 _ rfl; rwa [Nat.zero_add, Nat.add_zero] at this
  have d1 : w.cell? ⟨g, i * 3 + 1, none⟩ = some (.int .i64 (ca l i).tk) := by have := hh 1 _ rfl; rwa [Nat.zero_add] at this
  have d2 : w.cell? ⟨g, i * 3 + 2, none⟩ = some (.int .i64 (ca l i).ps) := by have := hh 2 _ rfl; rwa [Nat.zero_add] at this
  have ne : ∀ (p q : Nat), p ≠ q → (⟨g, p, none⟩ : Addr) ≠ ⟨g, q, none⟩ := fun p q hpq h => by injection h with h1 h2; exact hpq h2
  refine ⟨by rw [List.length_set]; exact h1, h2, h3, (fun e => by cases e), fun _ => ⟨g, 0, rfl, by simpa [World.setCell] using hlt, fun j y hy k v hv => ?_⟩⟩
  have hk : k < 3 := by have := (List.getElem?_eq_some_iff.1 hv).1; rw [Cl.cs_len] at this; exact this
  rw [Nat.zero_add]
  rcases set_at hy with ⟨rfl, rfl, _⟩ | ⟨hne, hy'⟩
  · match k, hv with
    | 0, hv =>
      cases hv
      rw [Nat.add_zero, World.cell?_setCell_other _ _ _ _ (ne _ _ (by omega)), World.cell?_setCell_other _ _ _ _ (ne _ _ (by omega))]
      exact World.cell?_setCell_same _ _ _ d0
    | 1, hv =>
      cases hv
      rw [World.cell?_setCell_other _ _ _ _ (ne _ _ (by omega))]
      exact World.cell?_setCell_same' _ _ _ (by rw [World.cell?_setCell_other _ _ _ _ (ne _ _ (by omega)), d1]; rfl)
    | 2, hv =>
      cases hv
      exact World.cell?_setCell_same' _ _ _ (by rw [World.cell?_setCell_other _ _ _ _ (ne _ _ (by omega)), World.cell?_setCell_other _ _ _ _ (ne _ _ (by omega)), d2]; rfl)
  · have := hc j y hy' k v hv
    rw [Nat.zero_add] at this
    rw [World.cell?_setCell_other _ _ _ _ (ne _ _ (by omega)), World.cell?_setCell_other _ _ _ _ (ne _ _ (by omega)), World.cell?_setCell_other _ _ _ _ (ne _ _ (by omega))]
    exact this
/-- A pass replaced. -/
theorem holds_set1 {w : World} {g n cap i : Nat} {l : List Cl} (h : HoldsC w (some ⟨g, 0, none⟩) n cap l) (hi : i < n) (x : Cl) (e1 : x.id = (ca l i).id) (e2 : x.tk = (ca l i).tk) :
    HoldsC (w.setCell ⟨g, i * 3 + 2, none⟩ (.int .i64 x.ps)) (some ⟨g, 0, none⟩) n cap (l.set i x) := by
  obtain ⟨h1, h2, h3, h4, h5⟩ := h
  obtain ⟨b, off, e, hlt, hc⟩ := h5 (by omega)
  cases e
  have hh := hc i _ (ca_get (by omega))
  have d0 : w.cell? ⟨g, i * 3, none⟩ = some (.int .i64 (ca l i).id) := by have := hh 0 _ rfl; rwa [Nat.zero_add, Nat.add_zero] at this
  have d1 : w.cell? ⟨g, i * 3 + 1, none⟩ = some (.int .i64 (ca l i).tk) := by have := hh 1 _ rfl; rwa [Nat.zero_add] at this
  have d2 : w.cell? ⟨g, i * 3 + 2, none⟩ = some (.int .i64 (ca l i).ps) := by have := hh 2 _ rfl; rwa [Nat.zero_add] at this
  have ne : ∀ (p q : Nat), p ≠ q → (⟨g, p, none⟩ : Addr) ≠ ⟨g, q, none⟩ := fun p q hpq h => by injection h with h1 h2; exact hpq h2
  refine ⟨by rw [List.length_set]; exact h1, h2, h3, (fun e => by cases e), fun _ => ⟨g, 0, rfl, by simpa [World.setCell] using hlt, fun j y hy k v hv => ?_⟩⟩
  have hk : k < 3 := by have := (List.getElem?_eq_some_iff.1 hv).1; rw [Cl.cs_len] at this; exact this
  rw [Nat.zero_add]
  rcases set_at hy with ⟨rfl, rfl, _⟩ | ⟨hne, hy'⟩
  · match k, hv with
    | 0, hv =>
      cases hv
      rw [Nat.add_zero, World.cell?_setCell_other _ _ _ _ (ne _ _ (by omega)), e1]; exact d0
    | 1, hv =>
      cases hv
      rw [World.cell?_setCell_other _ _ _ _ (ne _ _ (by omega)), e2]; exact d1
    | 2, hv =>
      cases hv
      exact World.cell?_setCell_same _ _ _ d2
  · have := hc j y hy' k v hv
    rw [Nat.zero_add] at this
    rw [World.cell?_setCell_other _ _ _ _ (ne _ _ (by omega))]
    exact this

set_option maxRecDepth 100000 in
set_option maxHeartbeats 8000000 in
theorem rchange_any (a : Option Addr) (len cap : Nat) (l : List Cl) (id t : Int) (w : World) (h : HoldsC w a len cap l) (hg : Gr l) :
    Calls Try.prog 23 #[.slice a len cap, .int .i64 id, .int .i64 t] w fun e w' => ∃ v, e = .returned (.tuple #[v, .int .i64 (changeE l id t)]) ∧ Reads a w (changeM l id t) v w' := by
  have PL := hid (rplace_any a len cap l id w h hg)
  have HH := hid h
  have HL := hid h.1
  have hle : len ≤ 1024 := by rw [← h.1]; exact hg.len
  have hcap := h.2.1
  cases hh : hs l id with
  | false =>
    rw [plc_no hh] at PL
    have E1 : changeE l id t = 8 := by unfold changeE; rw [if_neg (by simp [hh])]
    have E2 : changeM l id t = l := by unfold changeM; rw [E1]; rfl
    rw [E1, E2]
    clear E1 E2 hh h
    go_enter Try.func23, Try.ntmps23
    go_wp2_with fail
    refine PL.out.mono ?_
    rintro e w1 ⟨rfl, b1⟩
    have RD := hid (Reads.self HH.out b1)
    clear b1
    go_wp2
    go_ret2
    exact ⟨_, rfl, RD.out⟩
  | true =>
    rw [plc_yes hh] at PL
    have RI := hid (fun W => right_any t W)
    have t1 : decide ((sk l id : Int) < 0) = false := by simp
    cases ht : tkOk t with
    | false =>
      have E1 : changeE l id t = 1 := by unfold changeE; rw [if_pos hh, if_neg (by simp [ht])]
      have E2 : changeM l id t = l := by unfold changeM; rw [E1]; rfl
      rw [E1, E2]
      rw [ht] at RI
      clear E1 E2 hh h ht
      generalize sk l id = s at *
      go_enter Try.func23, Try.ntmps23
      go_wp2_with fail
      refine PL.out.mono ?_
      rintro e w1 ⟨rfl, b1⟩
      go_wp2_with fail
      refine (RI.out w1).mono ?_
      rintro e w' ⟨rfl, rfl⟩
      have RD := hid (Reads.self HH.out b1)
      clear b1
      go_wp2
      go_ret2
      exact ⟨_, rfl, RD.out⟩
    | true =>
      obtain ⟨q1, q2⟩ := tkOk_yes ht
      obtain ⟨hk, he⟩ := hs_yes hh
      have E1 : changeE l id t = 0 := by unfold changeE; rw [if_pos hh, if_pos ht]
      have E2 : changeM l id t = lev (l.set (sk l id) (chC (ca l (sk l id)) t)) := by unfold changeM; rw [if_pos E1]; exact (lev_zero (ch_low hg hk q1 q2)).symm
      rw [E1, E2]
      rw [ht] at RI
      obtain ⟨_, r1, r2, r3, r4⟩ := hg.rng _ hk
      have RG := ch_rng r1 r2 r3 r4 q1 q2
      have sp := stv_pos q1 q2
      have PS : Hid (∀ i, i < (l.set (sk l id) (chC (ca l (sk l id)) t)).length → 0 ≤ (ca (l.set (sk l id) (chC (ca l (sk l id)) t)) i).ps ∧ (ca (l.set (sk l id) (chC (ca l (sk l id)) t)) i).ps ≤ 2000000) := by
        intro i hi
        rw [List.length_set] at hi
        rw [ca_set hi]
        split
        · unfold chC; simp only; omega
        · obtain ⟨_, a, b, c, d⟩ := hg.rng i hi
          have := stv_pos a b; omega
      have CE : Hid (chC (ca l (sk l id)) t = ⟨id, t, (ca l (sk l id)).ps * (ca l (sk l id)).tk / t⟩) := by unfold Hid chC; rw [he]
      rw [HL.out] at hk
      clear E1 E2 hh h ht he r1 r2 r3 r4
      generalize sk l id = s at *
      obtain ⟨nw, hnw⟩ : ∃ nw, (ca l s).ps * (ca l s).tk / t = nw := ⟨_, rfl⟩
      have hd : Int.tdiv ((ca l s).ps * (ca l s).tk) t = nw := by rw [Int.tdiv_eq_ediv_of_nonneg RG.1, hnw]
      rw [hnw] at RG CE
      rw [CE.out] at PS ⊢
      have hw1 : IntKind.i64.wrap ((ca l s).ps * (ca l s).tk) = (ca l s).ps * (ca l s).tk := by rw [IntKind.wrap_i64]; omega
      have hw2 : IntKind.i64.wrap nw = nw := by rw [IntKind.wrap_i64]; omega
      have hz : ¬ (t = 0) := by omega
      have sa : (0 : Int) ≤ (s : Int) := by omega
      have sb : (s : Int) < (len : Int) := by omega
      clear hnw RG sp
      go_enter Try.func23, Try.ntmps23
      go_wp2_with fail
      refine PL.out.mono ?_
      rintro e w1 ⟨rfl, b1⟩
      have B1 := hid b1
      have H1 := hid (HH.out.below b1)
      clear b1
      go_wp2_with fail
      refine (RI.out w1).mono ?_
      rintro e w' ⟨rfl, rfl⟩
      obtain ⟨a2, c2, w2, hrun, o2, b2⟩ := copy_run 26 w1.heap.size len cap w1 a l H1.out hle rfl
      obtain ⟨b, off, rfl, hbl, R⟩ := H1.out.rowC (by omega)
      obtain ⟨x0, x1, x2⟩ := R s hk
      replace x1 := keepc b2 x1
      replace x2 := keepc b2 x2
      obtain ⟨g, rfl⟩ : ∃ g, a2 = some ⟨g, 0, none⟩ := by
        rcases o2.2.2 with ⟨hv, h0⟩ | ⟨g, cap', cur, hv, _⟩
        · omega
        · simp at hv; exact ⟨g, hv.1⟩
      have M2 := hid (o2.holds Cl.cs_len)
      have f0 := o2.2.frozenAt (s * 3)
      have f1 := o2.2.frozenAt (s * 3 + 1)
      have f2 := o2.2.frozenAt (s * 3 + 2)
      obtain ⟨g', offg, eg, hgl, RM⟩ := M2.out.rowC (by omega)
      cases eg
      obtain ⟨y0, y1, y2⟩ := RM s hk
      simp only [Nat.zero_add] at y0 y1 y2
      have gb : w1.heap.size ≤ g := (o2.lt g rfl).1
      have S3 := hid (fun W (hW : HoldsC W (some ⟨g, 0, none⟩) len c2 l) => holds_set3 hW hk ⟨id, t, nw⟩)
      have LV := hid (fun W (hW : HoldsC W (some ⟨g, 0, none⟩) len c2 (l.set s ⟨id, t, nw⟩)) => level_any (some ⟨g, 0, none⟩) len c2 _ W hW hle PS.out)
      have B2 := hid (B1.out.trans (b2.mono B1.out.size))
      have B2' := hid b2
      have hs1 := B1.out.size
      clear R RM o2 b2 PS x0
      generalize (ca l s).id = i0 at *
      generalize (ca l s).tk = i1 at *
      generalize (ca l s).ps = i2 at *
      go_wp2_with fail
      go_region_with fail
      all_goals
        have H5 := S3.out w2 M2.out
        have B5 : Hid (Below w.heap.size w (((w2.setCell ⟨g, s * 3, none⟩ (.int .i64 id)).setCell ⟨g, s * 3 + 1, none⟩ (.int .i64 t)).setCell ⟨g, s * 3 + 2, none⟩ (.int .i64 nw)).drew) := (((B2.out.setCell (p := ⟨g, s * 3, none⟩) (by show w.heap.size ≤ g; omega) _).setCell (p := ⟨g, s * 3 + 1, none⟩) (by show w.heap.size ≤ g; omega) _).setCell (p := ⟨g, s * 3 + 2, none⟩) (by show w.heap.size ≤ g; omega) _).drew
        have H6 := hid (H5.below (Below.refl _ _).drew)
        clear H5
        go_wp2_with fail
        refine (LV.out _ H6.out).mono ?_
        rintro e w4 ⟨a4, c4, rfl, h4, b4, n4⟩
        have RD := hid (Reads.of (some ⟨b, off, none⟩) h4 (B5.out.trans (b4.mono B5.out.size)) n4 B5.out.size)
        clear h4 b4
        go_wp2
        go_ret2
        exact ⟨_, rfl, RD.out⟩

set_option maxRecDepth 100000 in
set_option maxHeartbeats 8000000 in
theorem rpick_any (a : Option Addr) (len cap : Nat) (l : List Cl) (w : World) (h : HoldsC w a len cap l) (hg : Gr l) :
    Calls Try.prog 24 #[.slice a len cap] w fun e w' => ∃ v, e = .returned (.tuple #[v, .int .i64 (pickV l), .int .i64 (pickE l)]) ∧ Reads a w (pickM l) v w' := by
  have HH := hid h
  have HL := hid h.1
  have hle : len ≤ 1024 := by rw [← h.1]; exact hg.len
  have hcap := h.2.1
  by_cases hp : l.length = 0
  · have E1 : pickE l = 8 := by unfold pickE; rw [if_pos hp]
    have E2 : pickV l = 0 := by unfold pickV; rw [if_pos hp]
    have E3 : pickM l = l := by unfold pickM; rw [if_pos hp]
    rw [E1, E2, E3]
    have RD := hid (Reads.self HH.out (Below.refl _ _))
    have t0 : ((len : Int) == 0) = true := by have := HL.out; simp; omega
    clear E1 E2 E3 h
    go_enter Try.func24, Try.ntmps24
    go_wp2
    refine bodyPost_ret (results_tmp3 rfl _ _ _) rfl ?_
    exact ⟨_, rfl, RD.out⟩
  · have E1 : pickE l = 0 := by unfold pickE; rw [if_neg hp]
    have E2 : pickV l = (ca l (bs l)).id := by unfold pickV; rw [if_neg hp]; rfl
    have E3 : pickM l = lev (l.set (bs l) (fa (ca l (bs l)))) := by unfold pickM; rw [if_neg hp]; rfl
    rw [E1, E2, E3]
    have t0 : ((len : Int) == 0) = false := by have := HL.out; simp; omega
    have hk := bs_lt (l := l) (by omega)
    obtain ⟨_, r1, r2, r3, r4⟩ := hg.rng _ hk
    have sp := stv_pos r1 r2
    have PS := hid (hg.far_ps (by omega))
    unfold far at PS
    have FE : Hid (fa (ca l (bs l)) = ⟨(ca l (bs l)).id, (ca l (bs l)).tk, (ca l (bs l)).ps + stv (ca l (bs l)).tk⟩) := rfl
    have NB : Hid (nx l len = bs l) := by unfold Hid bs; rw [HL.out]
    have RS := hid (fun W => rstride_any (ca l (bs l)).tk r1 r2 W)
    have hw : IntKind.i64.wrap ((ca l (bs l)).ps + stv (ca l (bs l)).tk) = (ca l (bs l)).ps + stv (ca l (bs l)).tk := by rw [IntKind.wrap_i64]; omega
    rw [HL.out] at hk
    rw [FE.out] at PS ⊢
    clear E1 E2 E3 h hg r1 r2 r3 r4 sp FE
    have hp' : 0 < len := by omega
    go_enter Try.func24, Try.ntmps24
    go_wp2_with fail
    go_loopw [5, 15] (fun u v wr => ∃ k : Nat, k ≤ len ∧ u = .int .i64 (nx l k : Int) ∧ v = .int .i64 (k : Int) ∧ Hid (Below w.heap.size w wr)) (fun _ v _ => len - (intOf v).toNat)
    case atStart => exact ⟨0, by omega, rfl, rfl, Below.refl _ _⟩
    case round =>
      rename World => wo
      obtain ⟨k, hk', rfl, rfl, hB⟩ := hrel
      by_cases hlt : k < len
      · obtain ⟨b, off, rfl, hbl, R⟩ := HH.out.rowC (by omega)
        obtain ⟨c0, c1, c2⟩ := R k hlt
        have hnx : nx l k < len := by have := nx_le l k; omega
        obtain ⟨_, _, d2⟩ := R (nx l k) hnx
        replace c0 := keepc hB.out c0
        replace c1 := keepc hB.out c1
        replace c2 := keepc hB.out c2
        replace d2 := keepc hB.out d2
        clear R
        have ka : (0 : Int) ≤ (k : Int) := by omega
        have kb : (k : Int) < (len : Int) := by omega
        have na : (0 : Int) ≤ (nx l k : Int) := by omega
        have nb : (nx l k : Int) < (len : Int) := by omega
        have NS : Hid (nx l (k + 1) = if (ca l k).ps < (ca l (nx l k)).ps then k else nx l k) := rfl
        by_cases hc : (ca l k).ps < (ca l (nx l k)).ps
        · rw [if_pos hc] at NS
          have tq : decide ((ca l k).ps < (ca l (nx l k)).ps) = true := by simpa using hc
          clear hc
          generalize (ca l (nx l k)).ps = nv at *
          generalize hcx : ca l k = x at *
          obtain ⟨i0, i1, i2⟩ := x
          clear hcx
          simp only at c0 c1 c2 tq
          have B4 : Hid (Below w.heap.size w (wo.alloc (boxR ⟨i0, i1, i2⟩))) := hB.out.alloc hB.out.size _
          have u2 : (wo.alloc (boxR ⟨i0, i1, i2⟩)).cell? ⟨wo.heap.size, 2, none⟩ = some (.int .i64 i2) := by simp [go_sem]
          have d2' := keepc ((Below.refl _ wo).alloc (Nat.le_refl _) (boxR ⟨i0, i1, i2⟩)) d2
          generalize nx l k = nk at *
          go_wp2_with fail
          go_quiet (fail)
          go_wp2
          go_roundw
          case rel => exact ⟨k + 1, by omega, by rw [NS.out], by go_num, below_drewN B4.out _⟩
          case measure => simp [intOf]; omega
        · rw [if_neg hc] at NS
          have tq : decide ((ca l k).ps < (ca l (nx l k)).ps) = false := by simpa using hc
          clear hc
          generalize (ca l (nx l k)).ps = nv at *
          generalize hcx : ca l k = x at *
          obtain ⟨i0, i1, i2⟩ := x
          clear hcx
          simp only at c0 c1 c2 tq
          have B4 : Hid (Below w.heap.size w (wo.alloc (boxR ⟨i0, i1, i2⟩))) := hB.out.alloc hB.out.size _
          have u2 : (wo.alloc (boxR ⟨i0, i1, i2⟩)).cell? ⟨wo.heap.size, 2, none⟩ = some (.int .i64 i2) := by simp [go_sem]
          have d2' := keepc ((Below.refl _ wo).alloc (Nat.le_refl _) (boxR ⟨i0, i1, i2⟩)) d2
          generalize nx l k = nk at *
          go_wp2_with fail
          go_quiet (fail)
          go_wp2
          go_roundw
          case rel => exact ⟨k + 1, by omega, by rw [NS.out], by go_num, below_drewN B4.out _⟩
          case measure => simp [intOf]; omega
      · have kn : k = len := by omega
        subst kn
        rw [NB.out]
        have H1 := hid (HH.out.below hB.out)
        obtain ⟨a2, c2, w2, hrun, o2, b2⟩ := copy_run 26 wo.heap.size k cap wo a l H1.out hle rfl
        obtain ⟨b, off, rfl, hbl, R⟩ := H1.out.rowC (by omega)
        obtain ⟨x0, x1, x2⟩ := R (bs l) hk
        replace x0 := keepc b2 x0
        obtain ⟨g, rfl⟩ : ∃ g, a2 = some ⟨g, 0, none⟩ := by
          rcases o2.2.2 with ⟨hv, h0⟩ | ⟨g, cap', cur, hv, _⟩
          · omega
          · simp at hv; exact ⟨g, hv.1⟩
        have M2 := hid (o2.holds Cl.cs_len)
        have f2 := o2.2.frozenAt (bs l * 3 + 2)
        obtain ⟨g', offg, eg, hgl, RM⟩ := M2.out.rowC (by omega)
        cases eg
        obtain ⟨y0, y1, y2⟩ := RM (bs l) hk
        simp only [Nat.zero_add] at y0 y1 y2
        have gb : wo.heap.size ≤ g := (o2.lt g rfl).1
        have hbg : b ≠ g := by omega
        have S1 := hid (fun W (hW : HoldsC W (some ⟨g, 0, none⟩) k c2 l) => holds_set1 hW hk ⟨(ca l (bs l)).id, (ca l (bs l)).tk, (ca l (bs l)).ps + stv (ca l (bs l)).tk⟩ rfl rfl)
        have LV := hid (fun W (hW : HoldsC W (some ⟨g, 0, none⟩) k c2 (l.set (bs l) ⟨(ca l (bs l)).id, (ca l (bs l)).tk, (ca l (bs l)).ps + stv (ca l (bs l)).tk⟩)) => level_any (some ⟨g, 0, none⟩) k c2 _ W hW hle PS.out)
        have B2 := hid (hB.out.trans (b2.mono hB.out.size))
        have hs1 := hB.out.size
        have X0 := hid x0
        have sa : (0 : Int) ≤ (bs l : Int) := by omega
        have sb : (bs l : Int) < (k : Int) := by omega
        clear R RM o2 b2 PS x1 x2
        generalize hi0 : (ca l (bs l)).id = i0 at *
        generalize hi1 : (ca l (bs l)).tk = i1 at *
        generalize hi2 : (ca l (bs l)).ps = i2 at *
        have HI0 := hid hi0
        have HI1 := hid hi1
        have HI2 := hid hi2
        clear hi0 hi1 hi2
        generalize hbsl : bs l = s at *
        have HBS := hid hbsl
        clear hbsl
        go_wp2_with fail
        go_region_with (refine (RS.out _).mono ?_; rintro e w5 ⟨rfl, rfl⟩)
        all_goals
          have H5 := hid ((S1.out w2 M2.out).below (Below.refl _ _).drew)
          have B5 : Hid (Below w.heap.size w ((w2.setCell ⟨g, s * 3 + 2, none⟩ (.int .i64 (i2 + stv i1))).drew)) := (B2.out.setCell (p := ⟨g, s * 3 + 2, none⟩) (by show w.heap.size ≤ g; omega) _).drew
          have z0 : ((w2.setCell ⟨g, s * 3 + 2, none⟩ (.int .i64 (i2 + stv i1))).drew).cell? ⟨b, off + s * 3, none⟩ = some (.int .i64 i0) := (World.cell?_setCell_other w2 _ _ _ (by intro e; injection e with e1 e2; exact hbg e1.symm)).trans X0.out
          clear y0 y1 y2 f2 x0 hrun
          go_wp2_with fail
          generalize (w2.setCell ⟨g, s * 3 + 2, none⟩ (.int .i64 (i2 + stv i1))).drew = W5 at *
          have Z0 := hid z0
          go_region_with (refine (LV.out _ (by first | exact H5.out | exact H5.out.below (Below.refl _ _).drew)).mono ?_; rintro e w4 ⟨a4, c4, rfl, h4, b4, n4⟩; have q0 := (keepc b4 Z0.out))
          all_goals go_wp2
          all_goals
            refine bodyPost_ret (results_tmp3 rfl _ _ _) rfl ?_
            rw [HBS.out, HI0.out, HI1.out, HI2.out]
            refine ⟨.slice a4 k c4, ?_, Reads.of _ h4 (B5.out.trans ((Below.trans (B := W5.heap.size) ((Below.refl _ W5).drew) b4).mono B5.out.size)) n4 (by first | exact B5.out.size | (show w.heap.size ≤ W5.heap.size; exact B5.out.size))⟩
            first
              | rfl
              | simp [Act.put]

end Go.Proofs.Ytdenhpclopjjgaa
