/-
  Contracts of stride: Join.
-/
import Derived.Test.YtdenhpclopjjgaaGI
namespace Go.Proofs.Ytdenhpclopjjgaa
open Go.RowKit Go.Deep Go.Maps
set_option linter.unusedVariables false
set_option linter.unusedSimpArgs false

theorem insC_end (l : List Cl) (c : Cl) : insC l l.length c = l ++ [c] := by unfold insC; rw [List.take_length, List.drop_length]
theorem cins_grp (gb r vb i cap : Nat) (a : Option Addr) (l : List Cl) (q : Cl) (w : World) (h : Grp w gb r l) (hc : w.cell? ⟨gb, 0, none⟩ = some (.slice a l.length cap)) (hv : w.heap[vb]? = some (boxC q)) (h1 : vb ≠ gb) (h2 : vb ≠ r) (hn : l.length ≤ 1024) (hi : i ≤ l.length) :
    Calls Try.prog 30 #[.slice a l.length cap, .int .i64 (i : Int), .slice (some ⟨vb, 0, none⟩) 1 1] w fun e w' => ∃ g' cap', e = .returned (.slice (some ⟨g', 0, none⟩) (l.length + 1) cap') ∧ RowC w' g' (l.length + 1) cap' (ca (insC l i q)) ∧ Tn gb r w w' ∧ w'.heap[gb]? = w.heap[gb]? ∧ g' ≠ gb ∧ (g' = r ∨ w.heap.size ≤ g') := by
  obtain ⟨a', cap', h3, h4⟩ := h
  have hgb : gb < w.heap.size := (Array.getElem?_eq_some_iff.1 h3).1
  rw [cell_of_row w gb 0 _ _ (0, 0) h3] at hc
  cases hc
  have fin : ∀ (g : Nat), g ≠ gb → (g = r ∨ w.heap.size ≤ g) → ∀ (e : Ending) (w' : World), (∃ g' cap', e = .returned (.slice (some ⟨g', 0, none⟩) (l.length + 1) cap') ∧ RowC w' g' (l.length + 1) cap' (ca (insC l i q)) ∧ Tn g g w w' ∧ (g' = g ∨ w.heap.size ≤ g')) →
      ∃ g' cap', e = .returned (.slice (some ⟨g', 0, none⟩) (l.length + 1) cap') ∧ RowC w' g' (l.length + 1) cap' (ca (insC l i q)) ∧ Tn gb r w w' ∧ w'.heap[gb]? = w.heap[gb]? ∧ g' ≠ gb ∧ (g' = r ∨ w.heap.size ≤ g') := by
    rintro g hg hr e w' ⟨g', cap', he, hR, hT, hp⟩
    exact ⟨g', cap', he, hR, ⟨hT.bel, fun k hk _ hk2 => hT.oth k hk (by omega) (by omega)⟩, hT.oth gb hgb (fun e => hg e.symm) (fun e => hg e.symm), by omega, by omega⟩
  rcases h4 with ⟨rfl, rfl, rfl, rfl⟩ | ⟨rfl, hne, hrow⟩
  · have i0 : i = 0 := by simpa using hi
    subst i0
    exact (cins_end w.heap.size 0 0 vb none [] q w (OwnE.nil _ _ _ _ _) (.inl rfl) hv (by omega)).mono (fin w.heap.size (by omega) (.inr (Nat.le_refl _)))
  · by_cases hil : i = l.length
    · subst hil
      have := (cins_end r l.length cap vb (some ⟨r, 0, none⟩) l q w (hrow.own rfl (Nat.zero_le _)) (.inr rfl) hv hn)
      rw [← insC_end] at this
      exact this.mono (fin r hne (.inl rfl))
    · by_cases hroom : l.length + 1 ≤ cap
      · exact (cins_shift r l.length cap vb i l q w hrow rfl hv h2 hn (by omega) hroom).mono (fin r hne (.inl rfl))
      · exact (cins_grow r l.length cap vb i l q w hrow rfl hv hn (by omega) (by omega)).mono (fin r hne (.inl rfl))

/-- What a call does to a group. -/
def Does (w : World) (gb r : Nat) (v : Value) (m : List Cl) (e : Ending) (w' : World) : Prop := ∃ r', e = .returned v ∧ Grp w' gb r' m ∧ Tn gb r w w' ∧ (r' = r ∨ w.heap.size ≤ r')

theorem joinE_there {l : List Cl} {id t r : Int} (h : hs l id = true) : joinE l id t r = 9 ∧ joinM l id t r = l := by
  have e : joinE l id t r = 9 := by unfold joinE; rw [if_pos h]
  exact ⟨e, by unfold joinM; rw [e]; rfl⟩
theorem joinE_arg {l : List Cl} {id t r : Int} (h : hs l id = false) (h1 : tkOk t = false ∨ r < 0 ∨ stv t < r) : joinE l id t r = 1 ∧ joinM l id t r = l := by
  have e : joinE l id t r = 1 := by unfold joinE; rw [if_neg (by simp [h]), if_pos h1]
  exact ⟨e, by unfold joinM; rw [e]; rfl⟩
theorem joinE_full {l : List Cl} {id t r : Int} (h : hs l id = false) (h1 : tkOk t = true) (h2 : 0 ≤ r) (h3 : r ≤ stv t) (h4 : l.length = 1024) : joinE l id t r = 10 ∧ joinM l id t r = l := by
  have e : joinE l id t r = 10 := by unfold joinE; rw [if_neg (by simp [h]), if_neg (by simp [h1]; omega), if_pos h4]
  exact ⟨e, by unfold joinM; rw [e]; rfl⟩
theorem joinE_ok {l : List Cl} {id t r : Int} (h : hs l id = false) (h1 : tkOk t = true) (h2 : 0 ≤ r) (h3 : r ≤ stv t) (h4 : l.length ≠ 1024) : joinE l id t r = 0 ∧ joinM l id t r = lev (insC l (sk l id) ⟨id, t, r⟩) := by
  have e : joinE l id t r = 0 := by unfold joinE; rw [if_neg (by simp [h]), if_neg (by simp [h1]; omega), if_neg h4]
  exact ⟨e, by unfold joinM; rw [if_pos e]⟩

set_option maxRecDepth 100000 in
set_option maxHeartbeats 4000000 in
theorem join_any (gb r : Nat) (l : List Cl) (id t rm : Int) (w : World) (h : Grp w gb r l) (hg : Gr l) (hi : I64 id) :
    Calls Try.prog 16 #[gp gb, .int .i64 id, .int .i64 t, .int .i64 rm] w fun e w' => Does w gb r (.int .i64 (joinE l id t rm)) (joinM l id t rm) e w' := by
  have SK := hid (seek_any gb r l id w h hg)
  have HG := hid h
  have GR := hid hg
  have HL := hg.len
  clear h hg
  cases hh : hs l id with
  | true =>
    obtain ⟨E1, E2⟩ := joinE_there (t := t) (r := rm) hh
    rw [hh] at SK
    have X1 := hid E1
    have X2 := hid E2
    clear E1 E2 hh
    go_enter Try.func16, Try.ntmps16
    go_wp2_with fail
    refine SK.out.mono ?_
    rintro e w1 ⟨rfl, b1⟩
    go_wp2
    go_ret
    exact ⟨r, by rw [X1.out]; rfl, by rw [X2.out]; exact HG.out.below b1, Tn.of b1, .inl rfl⟩
  | false =>
    rw [hh] at SK
    have HS := hid hh
    clear hh
    have IR := hid (inRange_any t)
    by_cases ht : tkOk t = true
    · have tk := tkOk_yes ht
      have ST := hid (stride_any t tk.1 tk.2)
      have HT := hid ht
      rw [ht] at IR
      by_cases hr0 : rm < 0
      · obtain ⟨E1, E2⟩ := joinE_arg (l := l) (id := id) (t := t) HS.out (.inr (.inl hr0))
        have X1 := hid E1
        have X2 := hid E2
        have t1 : decide (rm < 0) = true := by simpa using hr0
        clear E1 E2 ht tk hr0
        go_enter Try.func16, Try.ntmps16
        go_wp2_with fail
        refine SK.out.mono ?_
        rintro e w1 ⟨rfl, b1⟩
        go_wp2_with fail
        refine (IR.out w1).mono ?_
        rintro e w2 ⟨rfl, rfl⟩
        go_wp2
        go_ret
        exact ⟨r, by rw [X1.out]; rfl, by rw [X2.out]; exact HG.out.below b1, Tn.of b1, .inl rfl⟩
      · have t1 : decide (rm < 0) = false := by simpa using hr0
        by_cases hr1 : stv t < rm
        · obtain ⟨E1, E2⟩ := joinE_arg (l := l) (id := id) (t := t) HS.out (.inr (.inr hr1))
          have X1 := hid E1
          have X2 := hid E2
          have t2 : decide (stv t < rm) = true := by simpa using hr1
          clear E1 E2 ht tk hr0 hr1
          go_enter Try.func16, Try.ntmps16
          go_wp2_with fail
          refine SK.out.mono ?_
          rintro e w1 ⟨rfl, b1⟩
          go_wp2_with fail
          refine (IR.out w1).mono ?_
          rintro e w2 ⟨rfl, rfl⟩
          go_wp2_with fail
          refine (ST.out w1).mono ?_
          rintro e w2 ⟨rfl, rfl⟩
          go_wp2
          go_ret
          exact ⟨r, by rw [X1.out]; rfl, by rw [X2.out]; exact HG.out.below b1, Tn.of b1, .inl rfl⟩
        · have t2 : decide (stv t < rm) = false := by simpa using hr1
          obtain ⟨a, cap, cc, ff, _, _⟩ := HG.out.box
          have CC := hid cc
          have FF := hid ff
          by_cases hfull : l.length = 1024
          · obtain ⟨E1, E2⟩ := joinE_full (l := l) (id := id) (r := rm) (t := t) HS.out HT.out (by omega) (by omega) hfull
            have X1 := hid E1
            have X2 := hid E2
            rw [hfull] at CC
            clear E1 E2 ht tk hr0 hr1 cc ff
            go_enter Try.func16, Try.ntmps16
            go_wp2_with fail
            refine SK.out.mono ?_
            rintro e w1 ⟨rfl, b1⟩
            have c0 := keepc b1 CC.out
            go_wp2_with fail
            refine (IR.out w1).mono ?_
            rintro e w2 ⟨rfl, rfl⟩
            go_wp2_with fail
            refine (ST.out w1).mono ?_
            rintro e w2 ⟨rfl, rfl⟩
            go_wp2
            go_ret
            exact ⟨r, by rw [X1.out]; rfl, by rw [X2.out]; exact HG.out.below b1, Tn.of b1, .inl rfl⟩
          · obtain ⟨E1, E2⟩ := joinE_ok (l := l) (id := id) (r := rm) (t := t) HS.out HT.out (by omega) (by omega) hfull
            have X1 := hid E1
            have X2 := hid E2
            have tf : ((l.length : Int) == 1024) = false := by simpa using (by omega : ¬ (l.length : Int) = 1024)
            have PS : Hid (∀ i, i < (insC l (sk l id) ⟨id, t, rm⟩).length → 0 ≤ (ca (insC l (sk l id) ⟨id, t, rm⟩) i).ps ∧ (ca (insC l (sk l id) ⟨id, t, rm⟩) i).ps ≤ 2000000) := by
              intro i hi'
              have hk := sk_le l id
              rw [insC_len hk] at hi'
              rw [ca_ins hk hi']
              have sp := stv_pos tk.1 tk.2
              split
              · obtain ⟨_, a, b, c, d⟩ := GR.out.rng i (by omega)
                have := stv_pos a b; omega
              · split
                · simp only; omega
                · obtain ⟨_, a, b, c, d⟩ := GR.out.rng (i - 1) (by omega)
                  have := stv_pos a b; omega
            have IL : (insC l (sk l id) ⟨id, t, rm⟩).length = l.length + 1 := insC_len (sk_le l id)
            have HIL := hid IL
            have SL := hid (sk_le l id)
            clear E1 E2 ht tk hr0 hr1 cc ff IL
            go_enter Try.func16, Try.ntmps16
            go_wp2_with fail
            refine SK.out.mono ?_
            rintro e w1 ⟨rfl, b1⟩
            have c0 := keepc b1 CC.out
            have f0 := keepf b1 CC.out FF.out
            have B1 := hid b1
            have G1 := hid (HG.out.below b1)
            go_wp2_with fail
            refine (IR.out w1).mono ?_
            rintro e w2 ⟨rfl, rfl⟩
            go_wp2_with fail
            refine (ST.out w1).mono ?_
            rintro e w2 ⟨rfl, rfl⟩
            go_wp2_with fail
            obtain ⟨hgl, hrl⟩ := G1.out.lt
            have B2 : Below w1.heap.size w1 (w1.alloc (boxC ⟨id, t, rm⟩)) := (Below.refl _ _).alloc (Nat.le_refl _) _
            have G2 := hid (G1.out.below B2)
            refine (cins_grp gb r w1.heap.size (sk l id) cap a l ⟨id, t, rm⟩ (w1.alloc (boxC ⟨id, t, rm⟩)) G2.out (keepc B2 c0) (heap_alloc_new w1 _) (by omega) (by omega) HL SL.out).mono ?_
            rintro e w2 ⟨g', cap', rfl, R2, T2, K2, N2, P2⟩
            have c2 : w2.cell? ⟨gb, 0, none⟩ = some (.slice a l.length cap) := (World.cell?_of_block (w := w1.alloc (boxC ⟨id, t, rm⟩)) K2).trans (keepc B2 c0)
            have f2 : w2.frozen? ⟨gb, 0, none⟩ = false := (World.frozen?_of_block (w := w1.alloc (boxC ⟨id, t, rm⟩)) K2).trans (keepf B2 c0 f0)
            have G3 := G2.out.stored (m := insC l (sk l id) ⟨id, t, rm⟩) K2 N2 (by rw [HIL.out]; exact R2)
            rw [HIL.out] at G3
            have T3 : Hid (Tn gb r w (w2.setCell ⟨gb, 0, none⟩ (.slice (some ⟨g', 0, none⟩) (l.length + 1) cap'))) := (((Tn.of B1.out).step B2).trans T2 (.inl rfl)).trans (Tn.setCell (.inl rfl)) (.inl rfl)
            have P3 : Hid (g' = r ∨ w.heap.size ≤ g') := by
              rcases P2 with h | h
              · exact .inl h
              · have := B2.size; have := B1.out.size; exact .inr (by omega)
            have SE := hid (settle_any gb g' _ _ G3 (by rw [HIL.out]; omega) PS.out)
            clear R2 T2 K2 N2 P2 G3 hgl hrl c0 f0 b1
            go_wp2_with fail
            refine SE.out.mono ?_
            rintro e w3 ⟨⟨v3, rfl⟩, G4, T4⟩
            have Q4 := hid G4
            have T5 := hid (T3.out.trans T4 P3.out)
            clear G4 T4
            go_wp2
            go_ret
            exact ⟨g', by rw [X1.out]; rfl, by rw [X2.out]; exact Q4.out, T5.out, P3.out⟩
    · have hf : tkOk t = false := by simpa using ht
      rw [hf] at IR
      obtain ⟨E1, E2⟩ := joinE_arg (l := l) (id := id) (r := rm) HS.out (.inl hf)
      have X1 := hid E1
      have X2 := hid E2
      clear E1 E2 ht hf
      go_enter Try.func16, Try.ntmps16
      go_wp2_with fail
      refine SK.out.mono ?_
      rintro e w1 ⟨rfl, b1⟩
      go_wp2_with fail
      refine (IR.out w1).mono ?_
      rintro e w2 ⟨rfl, rfl⟩
      go_wp2
      go_ret
      exact ⟨r, by rw [X1.out]; rfl, by rw [X2.out]; exact HG.out.below b1, Tn.of b1, .inl rfl⟩

end Go.Proofs.Ytdenhpclopjjgaa
