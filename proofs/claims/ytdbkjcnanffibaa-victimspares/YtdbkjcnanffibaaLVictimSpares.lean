/- VictimSpares: for every list of queues, every list of leases and every amount the law answers true, and its arguments read as they did. No further conditions. -/
import Derived.Test.YtdbkjcnanffibaaMB
import Derived.Test.YtdbkjcnanffibaaMC
import Derived.Test.YtdbkjcnanffibaaQV
namespace Go.Proofs.Ytdbkjcnanffibaa.victimSpares
open Go.ChangeShapes Go.WideShapes Go.ChangeAt Go.RowKit Go.Deep Go.Maps Go.Shelf
set_option linter.unusedVariables false
set_option linter.unusedSimpArgs false

theorem chs_zero {l : List Qu} {ls : List Le} {p q : Int} (h1 : chsE l ls p q ≠ 0) (h2 : chsE l ls p q ≠ 8) : chsT l ls p q = 0 := by
  unfold chsT
  rw [if_neg]
  rintro ⟨a, b⟩
  unfold chsE at h1 h2
  rw [if_pos a, if_pos b] at h1 h2
  split at h1
  · exact h1 rfl
  · rename_i h; rw [if_neg h] at h2; exact h2 rfl
theorem chs_none {l : List Qu} {ls : List Le} {p q : Int} (hok : ∀ x ∈ ls, x.okB) (h1 : chsE l ls p q ≠ 0) {j : Nat} (hj : j < (lastL ls).length) (hv : vicB l ls p q = true) : covB l (wo (lastL ls) j) (la (lastL ls) j).qu = false := by
  obtain ⟨a, b⟩ := vic_read hv
  unfold chsE at h1
  rw [if_pos a, if_pos b] at h1
  cases hb : bestL l ls p q with
  | none => exact none_may hok a hb hj
  | some x => rw [hb] at h1; exact absurd rfl h1
theorem chs_found {l : List Qu} {ls : List Le} {p q : Int} (hok : ∀ x ∈ ls, x.okB) (h1 : chsE l ls p q = 0) : fndK l (lastL ls) (chsT l ls p q) (lastL ls).length = true := by
  unfold chsE at h1
  split at h1
  · rename_i a
    split at h1
    · rename_i b
      cases hb : bestL l ls p q with
      | none => rw [hb] at h1; cases h1
      | some x =>
        have := best_found hok a b hb
        unfold chsT
        rw [if_pos ⟨a, b⟩, hb]
        exact this
    · cases h1
  · rename_i a; exact absurd h1 a

set_option maxRecDepth 100000 in
set_option maxHeartbeats 8000000 in
theorem walk (a : Option Addr) (len cap : Nat) (l : List Qu) (b : Option Addr) (ln cp : Nat) (ls : List Le) (p1 p2 : Int) (w : World) (h : HoldsQ w a len cap l) (hok : ∀ q ∈ l, q.ok) (s0 : cap * 56 ≤ 140737488351232) (hl : HoldsL w b ln cp ls) (hlk : ∀ x ∈ ls, x.ok) (hlo : ∀ x ∈ ls, x.okB) (s1 : cp * 80 ≤ 140737488351232) (n1 : ∀ q ∈ ls, q.sc * 8 ≤ 140737488351232) (w20 : I64 p1) (w21 : I64 p2) :
    Calls Try.prog 4 #[.slice a len cap, .slice b ln cp, .agg #[.int .i64 p1, .int .i64 p2]] w fun e w' => e = .returned (.bool true) ∧ Below w.heap.size w w' := by
  have hcp := hl.1.2.1
  have B0 := hid ((Below.refl w.heap.size w).alloc (Nat.le_refl _) (.cells #[.int .i64 p1, .int .i64 p2] 32))
  have z0 : (w.alloc (.cells #[.int .i64 p1, .int .i64 p2] 32)).cell? ⟨w.heap.size, 0, none⟩ = some (.int .i64 p1) := by simp [go_sem]
  have z1 : (w.alloc (.cells #[.int .i64 p1, .int .i64 p2] 32)).cell? ⟨w.heap.size, 1, none⟩ = some (.int .i64 p2) := by simp [go_sem]
  have VI := hid (fun W (hW : Below w.heap.size w W) => victims_any a len cap l b ln cp ls p1 p2 W (h.below hW) hok (hl.below hW) hlo (by omega))
  have LI := hid (fun W (hW : Below w.heap.size w W) => live_any b ln cp ls W (hl.below hW) (by omega))
  have CH := hid (fun W (hW : Below w.heap.size w W) => uchoose_any a len cap l b ln cp ls p1 p2 W (h.below hW) hok (hl.below hW) hlo (by omega) read_last)
  have HC := hid (fun W (hW : Below w.heap.size w W) x (hx : x ∈ lastL ls) => (hl.2 x (lastL_mem hx)).below hW)
  have hlen : (lastL ls).length ≤ ln := by rw [← hl.1.1]; exact (lastL_sub ls).length_le
  have CV := hid (fun W aa n cc m (hW : Below w.heap.size w W) (hm : HoldsL W aa n cc m) (hsub : m.Sublist (lastL ls)) id => rcov_any a len cap l aa n cc m id W (h.below hW) hok hm (fun x hx => hlo x (lastL_mem (hsub.subset hx))) (by
    have := hsub.length_le; have e := hm.1.1; omega))
  have ZE := hid (fun (h1 : chsE l ls p1 p2 ≠ 0) (h2 : chsE l ls p1 p2 ≠ 8) => chs_zero h1 h2)
  have NO := hid (fun (h1 : chsE l ls p1 p2 ≠ 0) (j : Nat) (hj : j < (lastL ls).length) (hv : vicB l ls p1 p2 = true) => chs_none hlo h1 hj hv)
  have FO := hid (fun (h1 : chsE l ls p1 p2 = 0) => chs_found hlo h1)
  clear h hok hl hlk hlo n1
  generalize chsE l ls p1 p2 = CE at *
  generalize chsT l ls p1 p2 = CT at *
  go_enter Try.func4, Try.ntmps4
  go_wp2_with fail
  refine (awake8_any _).mono ?_
  rintro e w1 ⟨rfl, b1⟩
  have B1 := hid (B0.out.trans (b1.mono B0.out.size))
  replace z0 := keepc b1 z0
  replace z1 := keepc b1 z1
  clear b1
  by_cases h40 : 40 < ln
  · have t : decide ((40 : Int) < (ln : Int)) = true := by simp; omega
    go_wp2_with fail
    go_ret
    exact ⟨rfl, B1.out⟩
  have t : decide ((40 : Int) < (ln : Int)) = false := by simp; omega
  go_wp2_with fail
  refine (CH.out _ B1.out).mono ?_
  rintro e w2 ⟨rfl, b2⟩
  have B2 := hid (B1.out.trans (b2.mono B1.out.size))
  replace z0 := keepc b2 z0
  replace z1 := keepc b2 z1
  clear b2 CH t
  by_cases e8 : CE = 8
  · subst e8
    clear ZE FO
    have B3L := hid B2.out
    go_wp2_with fail
    refine (LI.out _ B2.out).mono ?_
    rintro e w3 ⟨v3, rfl, o3, b3⟩
    have B3 := hid (B2.out.trans (b3.mono B2.out.size))
    replace z0 := keepc b3 z0
    replace z1 := keepc b3 z1
    have ZZ := hid (And.intro z0 z1)
    obtain ⟨aa, cc, rfl⟩ := o3.form
    have H3 := hid (o3.holds Le.cs_len)
    clear o3 b3 LI z0 z1 B3L
    have HM : Hid (lastL ls = lastL ls) := rfl
    generalize hm : lastL ls = m at *
    have h40' : m.length ≤ 40 := by omega
    generalize hn : m.length = n at *
    have HN := hid hn
    have HMM := hid hm
    clear hn hm HM
    go_wp2_with fail
    go_loopw [10, 38] (fun s i wr => ∃ k : Nat, k ≤ n ∧ i = .int .i64 (k : Int) ∧ s = .bool ((fun _ : Nat => false) k) ∧ Hid (Below w3.heap.size w3 wr)) (fun s i _ => n - (intOf i).toNat)
    case atStart => exact ⟨0, by omega, rfl, rfl, Below.refl _ _⟩
    case round =>
      obtain ⟨k, hk, rfl, rfl, hB⟩ := hrel
      by_cases hlt : k < n
      · have hlt' : k < m.length := by rw [HN.out]; exact hlt
        obtain ⟨ab, ao, rfl, hbl, Rw⟩ := H3.out.rowL (by omega)
        obtain ⟨d1, d2, d3, d4, d5, d6, d7, d8⟩ := Rw k hlt
        have c1 := keepc hB.out d1
        have c2 := keepc hB.out d2
        have c3 := keepc hB.out d3
        have c4 := keepc hB.out d4
        have c5 := keepc hB.out d5
        have c6 := keepc hB.out d6
        have c7 := keepc hB.out d7
        have c8 := keepc hB.out d8
        have ka : (0 : Int) ≤ (k : Int) := by omega
        have kb : (k : Int) < (n : Int) := by omega
        have kcap := H3.out.2.1
        have kcm := H3.out.2.2.1
        clear d1 d2 d3 d4 d5 d6 d7 d8 Rw
        have FX := hid (fun (hv : vicB l ls p1 p2 = true) => NO.out (by decide) k hlt hv)
        have B6 := hid ((B3.out.trans (hB.out.mono B3.out.size)))
        have CK := hid (fun W aa n cc (hW : Below w.heap.size w W) (hm' : HoldsE 8 Le.cs W aa n cc (wo m k)) => CV.out W aa n cc (wo m k) hW ⟨hm', fun x hx => HC.out W hW x ((wo_sub m k).subset hx)⟩ (wo_sub m k) (la m k).qu)
        have EX := hid (show covB l (wo m k) (la m k).qu = covB l (wo m k) (la m k).qu from rfl)
        clear EX
        generalize hx : la m k = x at *
        clear hx
        obtain ⟨x1, x2, x3, sa, sl, sc, x5, x6, x7, x8, co⟩ := x
        simp only at c1 c2 c3 c4 c5 c6 c7 c8 FX CK
        generalize covB l (wo m k) x2 = MB at *
        have BA := hid (hB.out.alloc hB.out.size (.cells #[.int .i64 x1, .int .i64 x2, .int .i64 x3, .slice sa sl sc, .int .i64 x5, .int .i64 x6, .int .i64 x7, .bool x8] 38))
        have BZ := hid (B6.out.alloc B6.out.size (.cells #[.int .i64 x1, .int .i64 x2, .int .i64 x3, .slice sa sl sc, .int .i64 x5, .int .i64 x6, .int .i64 x7, .bool x8] 38))
        have y0 : (wr.alloc (.cells #[.int .i64 x1, .int .i64 x2, .int .i64 x3, .slice sa sl sc, .int .i64 x5, .int .i64 x6, .int .i64 x7, .bool x8] 38)).cell? ⟨wr.heap.size, 0, none⟩ = some (.int .i64 x1) := by simp [go_sem]
        have y1 : (wr.alloc (.cells #[.int .i64 x1, .int .i64 x2, .int .i64 x3, .slice sa sl sc, .int .i64 x5, .int .i64 x6, .int .i64 x7, .bool x8] 38)).cell? ⟨wr.heap.size, 1, none⟩ = some (.int .i64 x2) := by simp [go_sem]
        have z0 := keepc BA.out ZZ.out.1
        have z1 := keepc BA.out ZZ.out.2
        go_wp2_with fail
        clear c1 c2 c3 c4 c5 c6 c7 c8
        have H6 := hid (H3.out.below BA.out)
        generalize (wr.alloc (.cells #[.int .i64 x1, .int .i64 x2, .int .i64 x3, .slice sa sl sc, .int .i64 x5, .int .i64 x6, .int .i64 x7, .bool x8] 38)) = w6 at *
        generalize wr.heap.size = QK at *
        have WO := hid (fun W (hW : Below w.heap.size w W) (hW6 : Below w6.heap.size w6 W) => without_any ab ao n cc m k W (H6.out.below hW6) hlt (by omega))
        have BX := hid (Below.drew (Below.refl w6.heap.size w6))
        have TW := hid (fun W (hW6 : Below w6.heap.size w6 W) => BZ.out.trans (hW6.mono BZ.out.size))
        have rg_y0 := drewc y0
        have rg_y1 := drewc y1
        have rg_z0 := drewc z0
        have rg_z1 := drewc z1
        refine wp_region_held_drew (S := (fun w' => w'.cell? ⟨QK, 0, none⟩ = some (.int .i64 x1) ∧ w'.cell? ⟨QK, 1, none⟩ = some (.int .i64 x2) ∧ w'.cell? ⟨w.heap.size, 0, none⟩ = some (.int .i64 p1) ∧ w'.cell? ⟨w.heap.size, 1, none⟩ = some (.int .i64 p2))) (by kernel_rfl) ⟨rg_y0, rg_y1, rg_z0, rg_z1⟩ (fun hHeld => ?_)
        refine wpAnyH_take (i := 0) (v := .slice a len cap) rfl (by kernel_rfl) (by kernel_rfl) (by kernel_rfl) (fun _ _ _ h => h) (Or.inl ⟨by rfl, ?_⟩) (by assumption) ?_
        · (intro w hSw; (try dsimp only at hSw); go_simp)
        (try simp only [Act.put, List.getElem_toArray, List.getElem_cons_succ, List.getElem_cons_zero, List.setIfInBounds_toArray, List.set_cons_zero, List.set_cons_succ])
        refine wpAnyH_take (i := 1) (v := .slice (some ⟨ab, ao, none⟩) n cc) rfl (by kernel_rfl) (by kernel_rfl) (by kernel_rfl) (fun _ _ _ h => h) (Or.inl ⟨by rfl, ?_⟩) (by assumption) ?_
        · (intro w hSw; (try dsimp only at hSw); go_simp)
        (try simp only [Act.put, List.getElem_toArray, List.getElem_cons_succ, List.getElem_cons_zero, List.setIfInBounds_toArray, List.set_cons_zero, List.set_cons_succ])
        refine wpAnyH_take (i := 2) (v := .int .i64 (k : Int)) rfl (by kernel_rfl) (by kernel_rfl) (by kernel_rfl) (fun _ _ _ h => h) (Or.inl ⟨by rfl, ?_⟩) (by assumption) ?_
        · (intro w hSw; (try dsimp only at hSw); go_simp)
        (try simp only [Act.put, List.getElem_toArray, List.getElem_cons_succ, List.getElem_cons_zero, List.setIfInBounds_toArray, List.set_cons_zero, List.set_cons_succ])
        refine wpAnyH_take (i := 4) (v := .pointer (some ⟨QK, 1, none⟩)) rfl (by kernel_rfl) (by kernel_rfl) (by kernel_rfl) (fun _ _ _ h => h) (Or.inl ⟨by rfl, ?_⟩) (by assumption) ?_
        · (intro w hSw; (try dsimp only at hSw); go_simp)
        (try simp only [Act.put, List.getElem_toArray, List.getElem_cons_succ, List.getElem_cons_zero, List.setIfInBounds_toArray, List.set_cons_zero, List.set_cons_succ])
        refine wpAnyH_take (i := 5) (v := .int .i64 x2) rfl (by kernel_rfl) (by kernel_rfl) (by kernel_rfl) (fun _ _ _ h => h) (Or.inl ⟨by rfl, ?_⟩) (by assumption) ?_
        · (intro w hSw; (try dsimp only at hSw); go_simp)
        (try simp only [Act.put, List.getElem_toArray, List.getElem_cons_succ, List.getElem_cons_zero, List.setIfInBounds_toArray, List.set_cons_zero, List.set_cons_succ])
        refine wpAnyH_ready (rs := [3]) (by kernel_rfl) (by simp) ?_
        refine AllReadyH.cons rfl (fun K hK => ?_) AllReadyH.nil
        go_simp
        refine (WO.out _ (TW.out _ BX.out) BX.out).mono ?_
        rintro e v1 ⟨u1, rfl, o1, b1⟩
        obtain ⟨wa_, wc, rfl⟩ := o1.form
        have H1 := hid (o1.holds Le.cs_len)
        replace BX := hid (BX.out.trans (b1.mono BX.out.size))
        replace rg_y0 := keepc b1 rg_y0
        replace rg_y1 := keepc b1 rg_y1
        replace rg_z0 := keepc b1 rg_z0
        replace rg_z1 := keepc b1 rg_z1
        refine hK.out _ _ ⟨rg_y0, rg_y1, rg_z0, rg_z1⟩ (fun hHeld => ?_)
        clear hK K
        (try simp only [Act.put, List.getElem_toArray, List.getElem_cons_succ, List.getElem_cons_zero, List.setIfInBounds_toArray, List.set_cons_zero, List.set_cons_succ])
        refine wpAnyH_ready (rs := [6]) (by kernel_rfl) (by simp) ?_
        refine AllReadyH.cons rfl (fun K hK => ?_) AllReadyH.nil
        go_simp
        refine (CK.out _ _ _ _ (TW.out _ BX.out) H1.out).mono ?_
        rintro e v2 ⟨rfl, b2⟩
        replace BX := hid (BX.out.trans (b2.mono BX.out.size))
        replace rg_y0 := keepc b2 rg_y0
        replace rg_y1 := keepc b2 rg_y1
        replace rg_z0 := keepc b2 rg_z0
        replace rg_z1 := keepc b2 rg_z1
        refine hK.out _ _ ⟨rg_y0, rg_y1, rg_z0, rg_z1⟩ (fun hHeld => ?_)
        clear hK K
        (try simp only [Act.put, List.getElem_toArray, List.getElem_cons_succ, List.getElem_cons_zero, List.setIfInBounds_toArray, List.set_cons_zero, List.set_cons_succ])
        refine wpAnyH_take (i := 7) (v := .bool MB) rfl (by kernel_rfl) (by kernel_rfl) (by kernel_rfl) (fun _ _ _ h => h) (Or.inl ⟨by rfl, ?_⟩) (by assumption) ?_
        · (intro w hSw; (try dsimp only at hSw); go_simp)
        (try simp only [Act.put, List.getElem_toArray, List.getElem_cons_succ, List.getElem_cons_zero, List.setIfInBounds_toArray, List.set_cons_zero, List.set_cons_succ])
        refine wpAnyH_done (by kernel_rfl) ?_ _
        clear hHeld rg_y0 rg_y1 rg_z0 rg_z1
        have bb := BX.out
        have B8 := hid (BA.out.trans (bb.mono BA.out.size))
        have B8W := hid (TW.out _ bb)
        replace y0 := keepc b2 (keepc b1 (drewc y0))
        replace z0 := keepc b2 (keepc b1 (drewc z0))
        replace z1 := keepc b2 (keepc b1 (drewc z1))
        clear b1 b2 bb o1 H1 H6 WO CK TW y1 BX
        cases MB
        · clear FX
          go_wp2_with fail
          refine ⟨⟨k + 1, by omega, by go_num, rfl, B8⟩, ?_⟩
          simp [intOf]; omega
        · have VF : vicB l ls p1 p2 = false := by
            cases hv : vicB l ls p1 p2 with
            | false => rfl
            | true => exact absurd (FX.out hv) (by decide)
          have VX := hid (VI.out _ B8W.out)
          rw [VF] at VX
          clear FX VF
          go_wp2_with fail
          refine VX.out.mono ?_
          rintro e w9 ⟨rfl, b9⟩
          have B9 := hid (B8.out.trans (b9.mono B8.out.size))
          clear b9
          go_wp2_with fail
          refine ⟨⟨k + 1, by omega, by go_num, rfl, B9⟩, ?_⟩
          simp [intOf]; omega
      · obtain rfl : n = k := by omega
        have BE := hid (B3.out.trans (hB.out.mono B3.out.size))
        go_wp2_with fail
        go_ret
        exact ⟨rfl, BE.out⟩
  by_cases e0 : CE = 0
  · subst e0
    clear ZE NO VI e8
    have B3L := hid B2.out
    go_wp2_with fail
    refine (LI.out _ B2.out).mono ?_
    rintro e w3 ⟨v3, rfl, o3, b3⟩
    have B3 := hid (B2.out.trans (b3.mono B2.out.size))
    replace z0 := keepc b3 z0
    replace z1 := keepc b3 z1
    have ZZ := hid (And.intro z0 z1)
    obtain ⟨aa, cc, rfl⟩ := o3.form
    have H3 := hid (o3.holds Le.cs_len)
    clear o3 b3 LI z0 z1 B3L
    have HM : Hid (lastL ls = lastL ls) := rfl
    generalize hm : lastL ls = m at *
    have h40' : m.length ≤ 40 := by omega
    generalize hn : m.length = n at *
    have HN := hid hn
    have HMM := hid hm
    clear hn hm HM
    go_wp2_with fail
    go_loopw [10, 38] (fun s i wr => ∃ k : Nat, k ≤ n ∧ i = .int .i64 (k : Int) ∧ s = .bool (fndK l m CT k) ∧ Hid (Below w3.heap.size w3 wr)) (fun s i _ => n - (intOf i).toNat)
    case atStart => exact ⟨0, by omega, rfl, rfl, Below.refl _ _⟩
    case round =>
      obtain ⟨k, hk, rfl, rfl, hB⟩ := hrel
      by_cases hlt : k < n
      · have hlt' : k < m.length := by rw [HN.out]; exact hlt
        obtain ⟨ab, ao, rfl, hbl, Rw⟩ := H3.out.rowL (by omega)
        obtain ⟨d1, d2, d3, d4, d5, d6, d7, d8⟩ := Rw k hlt
        have c1 := keepc hB.out d1
        have c2 := keepc hB.out d2
        have c3 := keepc hB.out d3
        have c4 := keepc hB.out d4
        have c5 := keepc hB.out d5
        have c6 := keepc hB.out d6
        have c7 := keepc hB.out d7
        have c8 := keepc hB.out d8
        have ka : (0 : Int) ≤ (k : Int) := by omega
        have kb : (k : Int) < (n : Int) := by omega
        have kcap := H3.out.2.1
        have kcm := H3.out.2.2.1
        clear d1 d2 d3 d4 d5 d6 d7 d8 Rw
        have FX : Hid (fndK l m CT (k + 1) = (fndK l m CT k || (decide ((la m k).ta = CT) && covB l (wo m k) (la m k).qu))) := rfl
        have B6 := hid ((B3.out.trans (hB.out.mono B3.out.size)))
        have CK := hid (fun W aa n cc (hW : Below w.heap.size w W) (hm' : HoldsE 8 Le.cs W aa n cc (wo m k)) => CV.out W aa n cc (wo m k) hW ⟨hm', fun x hx => HC.out W hW x ((wo_sub m k).subset hx)⟩ (wo_sub m k) (la m k).qu)
        have EX := hid (show covB l (wo m k) (la m k).qu = covB l (wo m k) (la m k).qu from rfl)
        clear EX
        generalize hx : la m k = x at *
        clear hx
        obtain ⟨x1, x2, x3, sa, sl, sc, x5, x6, x7, x8, co⟩ := x
        simp only at c1 c2 c3 c4 c5 c6 c7 c8 FX CK
        generalize covB l (wo m k) x2 = MB at *
        have BA := hid (hB.out.alloc hB.out.size (.cells #[.int .i64 x1, .int .i64 x2, .int .i64 x3, .slice sa sl sc, .int .i64 x5, .int .i64 x6, .int .i64 x7, .bool x8] 38))
        have BZ := hid (B6.out.alloc B6.out.size (.cells #[.int .i64 x1, .int .i64 x2, .int .i64 x3, .slice sa sl sc, .int .i64 x5, .int .i64 x6, .int .i64 x7, .bool x8] 38))
        have y0 : (wr.alloc (.cells #[.int .i64 x1, .int .i64 x2, .int .i64 x3, .slice sa sl sc, .int .i64 x5, .int .i64 x6, .int .i64 x7, .bool x8] 38)).cell? ⟨wr.heap.size, 0, none⟩ = some (.int .i64 x1) := by simp [go_sem]
        have y1 : (wr.alloc (.cells #[.int .i64 x1, .int .i64 x2, .int .i64 x3, .slice sa sl sc, .int .i64 x5, .int .i64 x6, .int .i64 x7, .bool x8] 38)).cell? ⟨wr.heap.size, 1, none⟩ = some (.int .i64 x2) := by simp [go_sem]
        have z0 := keepc BA.out ZZ.out.1
        have z1 := keepc BA.out ZZ.out.2
        go_wp2_with fail
        clear c1 c2 c3 c4 c5 c6 c7 c8
        have H6 := hid (H3.out.below BA.out)
        generalize (wr.alloc (.cells #[.int .i64 x1, .int .i64 x2, .int .i64 x3, .slice sa sl sc, .int .i64 x5, .int .i64 x6, .int .i64 x7, .bool x8] 38)) = w6 at *
        generalize wr.heap.size = QK at *
        have WO := hid (fun W (hW : Below w.heap.size w W) (hW6 : Below w6.heap.size w6 W) => without_any ab ao n cc m k W (H6.out.below hW6) hlt (by omega))
        have BX := hid (Below.drew (Below.refl w6.heap.size w6))
        have TW := hid (fun W (hW6 : Below w6.heap.size w6 W) => BZ.out.trans (hW6.mono BZ.out.size))
        have rg_y0 := drewc y0
        have rg_y1 := drewc y1
        have rg_z0 := drewc z0
        have rg_z1 := drewc z1
        refine wp_region_held_drew (S := (fun w' => w'.cell? ⟨QK, 0, none⟩ = some (.int .i64 x1) ∧ w'.cell? ⟨QK, 1, none⟩ = some (.int .i64 x2) ∧ w'.cell? ⟨w.heap.size, 0, none⟩ = some (.int .i64 p1) ∧ w'.cell? ⟨w.heap.size, 1, none⟩ = some (.int .i64 p2))) (by kernel_rfl) ⟨rg_y0, rg_y1, rg_z0, rg_z1⟩ (fun hHeld => ?_)
        refine wpAnyH_take (i := 0) (v := .slice a len cap) rfl (by kernel_rfl) (by kernel_rfl) (by kernel_rfl) (fun _ _ _ h => h) (Or.inl ⟨by rfl, ?_⟩) (by assumption) ?_
        · (intro w hSw; (try dsimp only at hSw); go_simp)
        (try simp only [Act.put, List.getElem_toArray, List.getElem_cons_succ, List.getElem_cons_zero, List.setIfInBounds_toArray, List.set_cons_zero, List.set_cons_succ])
        refine wpAnyH_take (i := 1) (v := .slice (some ⟨ab, ao, none⟩) n cc) rfl (by kernel_rfl) (by kernel_rfl) (by kernel_rfl) (fun _ _ _ h => h) (Or.inl ⟨by rfl, ?_⟩) (by assumption) ?_
        · (intro w hSw; (try dsimp only at hSw); go_simp)
        (try simp only [Act.put, List.getElem_toArray, List.getElem_cons_succ, List.getElem_cons_zero, List.setIfInBounds_toArray, List.set_cons_zero, List.set_cons_succ])
        refine wpAnyH_take (i := 2) (v := .int .i64 (k : Int)) rfl (by kernel_rfl) (by kernel_rfl) (by kernel_rfl) (fun _ _ _ h => h) (Or.inl ⟨by rfl, ?_⟩) (by assumption) ?_
        · (intro w hSw; (try dsimp only at hSw); go_simp)
        (try simp only [Act.put, List.getElem_toArray, List.getElem_cons_succ, List.getElem_cons_zero, List.setIfInBounds_toArray, List.set_cons_zero, List.set_cons_succ])
        refine wpAnyH_take (i := 4) (v := .pointer (some ⟨QK, 1, none⟩)) rfl (by kernel_rfl) (by kernel_rfl) (by kernel_rfl) (fun _ _ _ h => h) (Or.inl ⟨by rfl, ?_⟩) (by assumption) ?_
        · (intro w hSw; (try dsimp only at hSw); go_simp)
        (try simp only [Act.put, List.getElem_toArray, List.getElem_cons_succ, List.getElem_cons_zero, List.setIfInBounds_toArray, List.set_cons_zero, List.set_cons_succ])
        refine wpAnyH_take (i := 5) (v := .int .i64 x2) rfl (by kernel_rfl) (by kernel_rfl) (by kernel_rfl) (fun _ _ _ h => h) (Or.inl ⟨by rfl, ?_⟩) (by assumption) ?_
        · (intro w hSw; (try dsimp only at hSw); go_simp)
        (try simp only [Act.put, List.getElem_toArray, List.getElem_cons_succ, List.getElem_cons_zero, List.setIfInBounds_toArray, List.set_cons_zero, List.set_cons_succ])
        refine wpAnyH_ready (rs := [3]) (by kernel_rfl) (by simp) ?_
        refine AllReadyH.cons rfl (fun K hK => ?_) AllReadyH.nil
        go_simp
        refine (WO.out _ (TW.out _ BX.out) BX.out).mono ?_
        rintro e v1 ⟨u1, rfl, o1, b1⟩
        obtain ⟨wa_, wc, rfl⟩ := o1.form
        have H1 := hid (o1.holds Le.cs_len)
        replace BX := hid (BX.out.trans (b1.mono BX.out.size))
        replace rg_y0 := keepc b1 rg_y0
        replace rg_y1 := keepc b1 rg_y1
        replace rg_z0 := keepc b1 rg_z0
        replace rg_z1 := keepc b1 rg_z1
        refine hK.out _ _ ⟨rg_y0, rg_y1, rg_z0, rg_z1⟩ (fun hHeld => ?_)
        clear hK K
        (try simp only [Act.put, List.getElem_toArray, List.getElem_cons_succ, List.getElem_cons_zero, List.setIfInBounds_toArray, List.set_cons_zero, List.set_cons_succ])
        refine wpAnyH_ready (rs := [6]) (by kernel_rfl) (by simp) ?_
        refine AllReadyH.cons rfl (fun K hK => ?_) AllReadyH.nil
        go_simp
        refine (CK.out _ _ _ _ (TW.out _ BX.out) H1.out).mono ?_
        rintro e v2 ⟨rfl, b2⟩
        replace BX := hid (BX.out.trans (b2.mono BX.out.size))
        replace rg_y0 := keepc b2 rg_y0
        replace rg_y1 := keepc b2 rg_y1
        replace rg_z0 := keepc b2 rg_z0
        replace rg_z1 := keepc b2 rg_z1
        refine hK.out _ _ ⟨rg_y0, rg_y1, rg_z0, rg_z1⟩ (fun hHeld => ?_)
        clear hK K
        (try simp only [Act.put, List.getElem_toArray, List.getElem_cons_succ, List.getElem_cons_zero, List.setIfInBounds_toArray, List.set_cons_zero, List.set_cons_succ])
        refine wpAnyH_take (i := 7) (v := .bool MB) rfl (by kernel_rfl) (by kernel_rfl) (by kernel_rfl) (fun _ _ _ h => h) (Or.inl ⟨by rfl, ?_⟩) (by assumption) ?_
        · (intro w hSw; (try dsimp only at hSw); go_simp)
        (try simp only [Act.put, List.getElem_toArray, List.getElem_cons_succ, List.getElem_cons_zero, List.setIfInBounds_toArray, List.set_cons_zero, List.set_cons_succ])
        refine wpAnyH_done (by kernel_rfl) ?_ _
        clear hHeld rg_y0 rg_y1 rg_z0 rg_z1
        have bb := BX.out
        have B8 := hid (BA.out.trans (bb.mono BA.out.size))
        have B8W := hid (TW.out _ bb)
        replace y0 := keepc b2 (keepc b1 (drewc y0))
        replace z0 := keepc b2 (keepc b1 (drewc z0))
        replace z1 := keepc b2 (keepc b1 (drewc z1))
        clear b1 b2 bb o1 H1 H6 WO CK TW y1 BX
        by_cases ht : x1 = CT
        · subst ht
          cases MB
          · have FN : Hid (fndK l m x1 (k + 1) = fndK l m x1 k) := by unfold Hid; rw [FX.out]; simp
            clear FX
            generalize fndK l m x1 k = FK at *
            go_wp2_with fail
            refine ⟨⟨k + 1, by omega, by go_num, by rw [FN.out], B8⟩, ?_⟩
            simp [intOf]; omega
          · have FN : Hid (fndK l m x1 (k + 1) = true) := by unfold Hid; rw [FX.out]; simp
            clear FX
            generalize fndK l m x1 k = FK at *
            go_wp2_with fail
            refine ⟨⟨k + 1, by omega, by go_num, by rw [FN.out], B8⟩, ?_⟩
            simp [intOf]; omega
        · have tt : (x1 == CT) = false := by simpa using ht
          have FN : Hid (fndK l m CT (k + 1) = fndK l m CT k) := by unfold Hid; rw [FX.out]; simp [ht]
          clear FX ht
          generalize fndK l m CT k = FK at *
          go_wp2_with fail
          refine ⟨⟨k + 1, by omega, by go_num, by rw [FN.out], B8⟩, ?_⟩
          simp [intOf]; omega
      · obtain rfl : n = k := by omega
        have BE := hid (B3.out.trans (hB.out.mono B3.out.size))
        have FF := FO.out (by first | rfl | trivial)
        rw [FF]
        go_wp2_with fail
        go_ret
        exact ⟨rfl, BE.out⟩
  have e1 := ZE.out e0 e8
  have t1 : (CE != 0) = true := by simpa using e0
  have t2 : (CE != 8) = true := by simpa using e8
  subst e1
  go_wp2_with fail
  go_ret
  exact ⟨rfl, B2.out⟩

theorem own : ownKnob Try.prog.godebug = none := by kernel_rfl
theorem laidOut : laidOutB Try.prog = true := by kernel_rfl

set_option maxRecDepth 100000 in
theorem lifted (os : Os) (started : os.Started) (H : Type) (enc : TypeId × Value → H) :
    ReturnsInHanded {} Try.checked os 4 .any (Rows.victimSparesSpec.pre6 enc Try.prog Try.f4 Rows.victimSparesRow.domain false) (Rows.victimSparesSpec.post enc Try.prog Try.f4 false true false false) := by
  refine returnsInHanded_of_change_sized (C := Try.checked) own started (by kernel_rfl) Try.func4
    (ChangeSpec.witness6 (enc := enc) (C := Try.checked) false ⟨#[], #[.slice none 0 0, .slice none 0 0, .agg #[.int .i64 0, .int .i64 0]], []⟩ 8 (by kernel_rfl) (by kernel_rfl) (by kernel_rfl) (by kernel_rfl)) ?_
  intro W base args ds gs before hval0 hW hcnd hsz0 _
  have hsz : (DataW.weightsEach Try.prog (Try.f4.params.toList ++ Rows.victimSparesSpec.plain.varTypes Try.prog) (ds ++ gs)).all (· ≤ reachBytes) = true := hsz0
  have hval : ∀ (j : Nat) t v, Try.f4.params[j]? = some t → args[j]? = some v → Value.okWide Try.prog W .any base t v := hval0
  have hW' := hW
  obtain ⟨p, q, hA0, hV, rfl, hfz, hnd⟩ := hW
  have hA : DataW.TrodAll enc Try.prog W 0 (fun _ => true) true Try.f4.params.toList args.toList ds p := hA0
  rw [Try.params4] at hA hval hsz
  obtain ⟨v0, vs0, d0, ds0, p0, q0, hargs, rfl, rfl, h0, r0⟩ := trodAll_cons hA
  obtain ⟨v1, vs1, d1, ds1, p1, q1, rfl, rfl, rfl, h1, r1⟩ := trodAll_cons r0
  obtain ⟨v2, vs2, d2, ds2, p2, q2, rfl, rfl, rfl, h2, r2⟩ := trodAll_cons r1
  obtain ⟨rfl, rfl, rfl⟩ := trodAll_nil r2
  obtain rfl : args = #[v0, v1, v2] := by cases args; simp_all
  obtain ⟨rfl, rfl⟩ := trodVars_none hV
  have lt0 : ∀ x ∈ p0, x.block < W.heap.size := by obtain ⟨m, hm⟩ := h0; exact DataW.trod_lt m _ _ _ hm
  have lt1 : ∀ x ∈ p1, x.block < W.heap.size := by obtain ⟨m, hm⟩ := h1; exact DataW.trod_lt m _ _ _ hm
  have lt2 : ∀ x ∈ p2, x.block < W.heap.size := by obtain ⟨m, hm⟩ := h2; exact DataW.trod_lt m _ _ _ hm
  obtain ⟨a0, len0, cap0, rfl⟩ := okWide_slice Try.underlying30 (hval 0 30 v0 rfl rfl)
  obtain ⟨z0, w0, k0, dr0⟩ := val_rowE (k := 7) (en := Qu.cs) (ok := Qu.ok) Try.underlying30 (by kernel_rfl) Qu.cs_len (by decide) (fun _ _ _ h => trod_queue h) h0
  have s0 : cap0 * 56 ≤ 140737488351232 := sized_cap dr0 hsz (j := 0) rfl rfl Try.underlying30 (by kernel_rfl)
  obtain ⟨a1, len1, cap1, rfl⟩ := okWide_slice Try.underlying22 (hval 1 22 v1 rfl rfl)
  obtain ⟨z1, w1, k1, dr1, nest1, kb1⟩ := val_rowL Try.underlying22 h1
  have s1 : cap1 * 80 ≤ 140737488351232 := sized_cap dr1 hsz (j := 1) rfl rfl Try.underlying22 (by kernel_rfl)
  have n1 : ∀ q ∈ z1, q.sc * 8 ≤ 140737488351232 := nest1 (by rw [List.all_eq_true]; intro n hn; exact (List.all_eq_true.1 hsz) n (DataW.weights_mem_each (j := 1) rfl rfl n hn))
  obtain ⟨a2_0, a2_1, rfl, w2_0, w2_1⟩ := val_vec2 Try.underlying32 Try.underlying2 Try.underlying2 (by kernel_rfl) (by kernel_rfl) (hval 2 32 v2 rfl rfl) h2
  clear hA0 hval0
  refine (walk a0 len0 cap0 z0 a1 len1 cap1 z1 a2_0 a2_1 W w0 k0 s0 w1 k1 kb1 s1 n1 w2_0 w2_1).mono fun e W' ⟨he, bel⟩ => ?_
  subst he
  exact ⟨_, rfl, _, _, _, [], _, [], hW', trodAll_mk1 (shut_bool Try.underlying4 _), (trodAll_cons_mk (Below.trod laidOut (by kernel_rfl) (of_decide_eq_true (by kernel_rfl)) h0 bel lt0) (trodAll_cons_mk (Below.trod laidOut (by kernel_rfl) (of_decide_eq_true (by kernel_rfl)) h1 bel lt1) (trodAll_cons_mk (Below.trod laidOut (by kernel_rfl) (of_decide_eq_true (by kernel_rfl)) h2 bel lt2) trodAll_mk0))), rfl, bel.frame _, fun h => by cases h⟩

theorem over : Rows.victimSparesRow.holds Try.pinned (OpenSpec.ofChange Rows.victimSparesSpec) :=
  OpenClaim.holds_of_wide 4 Try.f4 rfl rfl rfl rfl rfl rfl rfl ⟨rfl, rfl, rfl, rfl, rfl⟩ rfl rfl rfl rfl rfl (by kernel_rfl) Try.func4 (by kernel_rfl)
    (of_decide_eq_true (by kernel_rfl)) (by unfold Func.isWrapper; first | (rw [if_pos (by decide +kernel)]; kernel_rfl) | (rw [if_neg (by decide +kernel)]; exact ⟨rfl, rfl⟩))
    (fun os started H enc _ => lifted os started H enc)

theorem proved : Rows.VictimSparesSaid := over

end Go.Proofs.Ytdbkjcnanffibaa.victimSpares
