/-
  Contracts of place: Free, Find.
-/
import Derived.Test.YtikalkigmnipiaaPH
namespace Go.Proofs.Ytikalkigmnipiaa
open Go.RowKit Go.Deep Go.Maps Go.Shelf
set_option linter.unusedVariables false
set_option linter.unusedSimpArgs false

/-- What is free of the node at a place. -/
def frL (ns : List Nd) (ls : List Lz) (j : Nat) : List Int := freeT (rmA ls (da ns j)).tk (da ns j).co.toNat
def frM (ns : List Nd) (ls : List Lz) (j : Nat) : Int := (rmA ls (da ns j)).fm
def freeE (ns : List Nd) (ls : List Lz) (id : Int) : Int := if plE ns ls = 0 then (if ndI ns id < ns.length then 0 else 8) else plE ns ls
def freeL (ns : List Nd) (ls : List Lz) (id : Int) : List Int := if freeE ns ls id = 0 then frL ns ls (ndI ns id) else []
def freeM (ns : List Nd) (ls : List Lz) (id : Int) : Int := if freeE ns ls id = 0 then frM ns ls (ndI ns id) else 0
theorem plE_zero {ns : List Nd} {ls : List Lz} (h : plE ns ls = 0) : ns.length ≤ 64 ∧ ndsB (-1) ns = true ∧ lesB ns [] ls = true := by
  unfold plE formP at h
  split at h
  · cases h
  · split at h
    · rename_i h1 h2
      rw [Bool.and_eq_true] at h2
      exact ⟨by omega, h2.1, h2.2⟩
    · cases h
theorem ret3 {v : Value} {a b c d : Int} (h : a = c) (g : b = d) : Ending.returned (.tuple #[v, .int .i64 a, .int .i64 b]) = .returned (.tuple #[v, .int .i64 c, .int .i64 d]) := by rw [h, g]
theorem ret3' {v : Value} {a b c d : Int} (h : a = c) (g : b = d) : Ending.returned (.tuple #[.int .i64 a, v, .int .i64 b]) = .returned (.tuple #[.int .i64 c, v, .int .i64 d]) := by rw [h, g]
theorem NewN.none (N : Nat) (w : World) {l : List Int} (h : l = []) : NewN N w (.slice none 0 0) l.length l := .inl ⟨rfl, by rw [h]; rfl, h⟩
/-- A room's cells, by its place. -/
theorem Rooms.at' {M : Nat} {w : World} {g len rc : Nat} {ns : List Nd} {ls : List Lz} (h : Rooms M w (some ⟨g, 0, none⟩) len rc (ns.map (rmA ls))) {j : Nat} (hj : j < ns.length) : w.rangeAt g (j * 71) (rmA ls (da ns j)).cs := by
  have hl : ns.length = len := by have := h.1.1; simpa using this
  obtain ⟨b', off', e, _, hc⟩ := h.1.rowR (by omega)
  cases e
  have := hc j (by omega)
  rwa [Nat.zero_add, ra_map ns ls hj] at this

set_option maxRecDepth 100000 in
set_option maxHeartbeats 8000000 in
theorem pfree_any (a : Option Addr) (len cap : Nat) (ns : List Nd) (qa : Option Addr) (ql qc : Nat) (l : List Le) (id : Int) (w : World) (h : HoldsD w a len cap ns) (hl : HoldsL w qa ql qc l) :
    Calls Try.prog 21 #[.slice a len cap, .slice qa ql qc, .int .i64 id] w fun e w' => ∃ v, e = .returned (.tuple #[v, .int .i64 (freeM ns (l.map Le.z) id), .int .i64 (freeE ns (l.map Le.z) id)]) ∧ NewN w.heap.size w' v (freeL ns (l.map Le.z) id).length (freeL ns (l.map Le.z) id) ∧ Below w.heap.size w w' := by
  have RD := hid (pread_any a len cap ns qa ql qc l w h hl)
  have HL := hid h.1
  clear h hl
  generalize l.map Le.z = ls at *
  by_cases hE : plE ns ls = 0
  case neg =>
    have t : (plE ns ls != 0) = true := by simpa using hE
    have E1 : Hid (freeE ns ls id = plE ns ls) := by unfold Hid freeE; rw [if_neg hE]
    have E2 : Hid (freeL ns ls id = []) := by unfold Hid freeL; rw [E1.out, if_neg hE]
    have E3 : Hid (freeM ns ls id = 0) := by unfold Hid freeM; rw [E1.out, if_neg hE]
    have HE := hid hE
    clear hE
    generalize plE ns ls = PE at *
    go_enter Try.func21, Try.ntmps21
    go_wp2_with fail
    refine RD.out.mono ?_
    rintro e w1 ⟨v1, rfl, o1, b1⟩
    clear o1
    go_wp2
    go_ret3
    exact ⟨_, ret3 E3.out.symm E1.out.symm, NewN.none _ _ E2.out, b1⟩
  obtain ⟨h64, hn, hp⟩ := plE_zero hE
  have HN := hid hn
  have HP := hid hp
  have hlen : len ≤ 64 := by rw [← HL.out]; exact h64
  rw [hE] at RD
  have HE := hid hE
  clear hE hn hp h64
  go_enter Try.func21, Try.ntmps21
  go_wp2_with fail
  refine RD.out.mono ?_
  rintro e w1 ⟨v1, rfl, o1, b1⟩
  have R1 : ∃ a cap, v1 = .slice a len cap ∧ Rooms w.heap.size w1 a len cap (ns.map (rmA ls)) := by
    rcases o1 with ⟨h, _⟩ | ⟨_, h⟩
    · exact absurd rfl h
    · exact h
  obtain ⟨ra, rc, rfl, hr⟩ := R1
  have R1 := hid hr
  have B1 := hid b1
  clear hr b1 o1 RD
  have SK := hid (seek_any ra len rc (ns.map (rmA ls)) id w1 R1.out.1 hlen (rise_rooms HN.out ls))
  go_wp2_with fail
  refine SK.out.mono ?_
  rintro e w2 ⟨j, rfl, hat, b2⟩
  have B2 := hid (B1.out.trans (b2.mono B1.out.size))
  cases hf : hasR (ns.map (rmA ls)) id
  · have hnd : ¬ ndI ns id < ns.length := by rw [hasR_map] at hf; simpa using hf
    have E1 : Hid (freeE ns ls id = 8) := by unfold Hid freeE; rw [if_pos HE.out, if_neg hnd]
    have E2 : Hid (freeL ns ls id = []) := by unfold Hid freeL; rw [E1.out]; rfl
    have E3 : Hid (freeM ns ls id = 0) := by unfold Hid freeM; rw [E1.out]; rfl
    clear hat b2 SK hf hnd
    go_wp2
    go_ret3
    exact ⟨_, ret3 E3.out.symm E1.out.symm, NewN.none _ _ E2.out, B2.out⟩
  obtain ⟨hj, hid3⟩ := at_found HN.out hat hf
  have hnj : ndI ns id = j := by rw [← hid3]; exact ndI_at HN.out hj
  have E1 : Hid (freeE ns ls id = 0) := by unfold Hid freeE; rw [if_pos HE.out, hnj, if_pos hj]
  have E2 : Hid (freeL ns ls id = frL ns ls j) := by unfold Hid freeL; rw [E1.out, if_pos rfl, hnj]
  have E3 : Hid (freeM ns ls id = frM ns ls j) := by unfold Hid freeM; rw [E1.out, if_pos rfl, hnj]
  have R2 := R1.out.below b2
  have hj' : j < len := by rw [← HL.out]; exact hj
  rcases R2.2 with ⟨_, h0⟩ | ⟨g, rfl, hg1, hg2, hg3⟩
  · omega
  have RG := R2.at' hj
  have k1 := RG 69 _ (Rm.at_fc _)
  have k2 := RG 70 _ (Rm.at_fm _)
  have hfc : (rmA ls (da ns j)).fc = ((frL ns ls j).length : Int) := fc_free HN.out HP.out hj
  rw [hfc] at k1
  have hfm : (rmA ls (da ns j)).fm = frM ns ls j := rfl
  rw [hfm] at k2
  have hN := ((ndsB_iff.1 HN.out).1 j hj).1
  have W3 : Below w2.heap.size w2 (w2.alloc (.cells #[.int .i64 ((frL ns ls j).length : Int), .int .i64 (frM ns ls j)] 25)) := (Below.refl _ w2).alloc (Nat.le_refl _) _
  have FI := hid (first_any g (j * 71) (da ns j).co.toNat (frL ns ls j).length (rmA ls (da ns j)) (w2.alloc (.cells #[.int .i64 ((frL ns ls j).length : Int), .int .i64 (frM ns ls j)] 25)).drew (rangeAt_drew (rangeAt_below RG W3)) (by show (da ns j).co = _; omega) (by omega) (Nat.le_refl _))
  rw [show freeT (rmA ls (da ns j)).tk (da ns j).co.toNat = frL ns ls j from rfl, List.take_length] at FI
  have ja : (0 : Int) ≤ (j : Int) := by omega
  have jb : (j : Int) < (len : Int) := by omega
  have WB := hid W3
  clear hat b2 SK R2 RG hg3 hfc hfm hN hid3 hnj W3
  generalize hFL : frL ns ls j = FL at *
  generalize frM ns ls j = FM at *
  generalize hFR : FL.length = FR at *
  have HFR := hid hFR
  clear hFL hFR
  have y0 : (w2.alloc (.cells #[.int .i64 (FR : Int), .int .i64 FM] 25)).cell? ⟨w2.heap.size, 0, none⟩ = some (.int .i64 (FR : Int)) := by simp [go_sem]
  have y1 : (w2.alloc (.cells #[.int .i64 (FR : Int), .int .i64 FM] 25)).cell? ⟨w2.heap.size, 1, none⟩ = some (.int .i64 FM) := by simp [go_sem]
  clear hf
  go_upto_region 8 with fail
  have rg_y0 := drewc y0
  have rg_y1 := drewc y1
  refine wp_region_held_drew (S := (fun w' => w'.cell? ⟨w2.heap.size, 0, none⟩ = some (.int .i64 (FR : Int)) ∧ w'.cell? ⟨w2.heap.size, 1, none⟩ = some (.int .i64 FM))) (by kernel_rfl) ⟨rg_y0, rg_y1⟩ (fun hHeld => ?_)
  refine wpAnyH_take (i := 0) (v := .slice (some ⟨g, 0, none⟩) len rc) rfl (by kernel_rfl) (by kernel_rfl) (by kernel_rfl) (fun _ _ _ h => h) (Or.inl ⟨by rfl, ?_⟩) (by assumption) ?_
  · (intro w hSw; (try dsimp only at hSw); go_simp)
  (try simp only [Act.put, List.getElem_toArray, List.getElem_cons_succ, List.getElem_cons_zero, List.setIfInBounds_toArray, List.set_cons_zero, List.set_cons_succ])
  refine wpAnyH_take (i := 1) (v := .int .i64 (j : Int)) rfl (by kernel_rfl) (by kernel_rfl) (by kernel_rfl) (fun _ _ _ h => h) (Or.inl ⟨by rfl, ?_⟩) (by assumption) ?_
  · (intro w hSw; (try dsimp only at hSw); go_simp)
  (try simp only [Act.put, List.getElem_toArray, List.getElem_cons_succ, List.getElem_cons_zero, List.setIfInBounds_toArray, List.set_cons_zero, List.set_cons_succ])
  refine wpAnyH_take (i := 2) (v := .pointer (some ⟨g, j * 71, none⟩)) rfl (by kernel_rfl) (by kernel_rfl) (by kernel_rfl) (fun _ _ _ h => h) (Or.inl ⟨by rfl, ?_⟩) (by assumption) ?_
  · (intro w hSw; (try dsimp only at hSw); go_simp)
  (try simp only [Act.put, List.getElem_toArray, List.getElem_cons_succ, List.getElem_cons_zero, List.setIfInBounds_toArray, List.set_cons_zero, List.set_cons_succ])
  refine wpAnyH_take (i := 3) (v := .pointer (some ⟨w2.heap.size, 0, none⟩)) rfl (by kernel_rfl) (by kernel_rfl) (by kernel_rfl) (fun _ _ _ h => h) (Or.inl ⟨by rfl, ?_⟩) (by assumption) ?_
  · (intro w hSw; (try dsimp only at hSw); go_simp)
  (try simp only [Act.put, List.getElem_toArray, List.getElem_cons_succ, List.getElem_cons_zero, List.setIfInBounds_toArray, List.set_cons_zero, List.set_cons_succ])
  refine wpAnyH_take (i := 4) (v := .int .i64 (FR : Int)) rfl (by kernel_rfl) (by kernel_rfl) (by kernel_rfl) (fun _ _ _ h => h) (Or.inl ⟨by rfl, ?_⟩) (by assumption) ?_
  · (intro w hSw; (try dsimp only at hSw); go_simp)
  (try simp only [Act.put, List.getElem_toArray, List.getElem_cons_succ, List.getElem_cons_zero, List.setIfInBounds_toArray, List.set_cons_zero, List.set_cons_succ])
  refine wpAnyH_take (i := 6) (v := .pointer (some ⟨w2.heap.size, 1, none⟩)) rfl (by kernel_rfl) (by kernel_rfl) (by kernel_rfl) (fun _ _ _ h => h) (Or.inl ⟨by rfl, ?_⟩) (by assumption) ?_
  · (intro w hSw; (try dsimp only at hSw); go_simp)
  (try simp only [Act.put, List.getElem_toArray, List.getElem_cons_succ, List.getElem_cons_zero, List.setIfInBounds_toArray, List.set_cons_zero, List.set_cons_succ])
  refine wpAnyH_take (i := 7) (v := .int .i64 FM) rfl (by kernel_rfl) (by kernel_rfl) (by kernel_rfl) (fun _ _ _ h => h) (Or.inl ⟨by rfl, ?_⟩) (by assumption) ?_
  · (intro w hSw; (try dsimp only at hSw); go_simp)
  (try simp only [Act.put, List.getElem_toArray, List.getElem_cons_succ, List.getElem_cons_zero, List.setIfInBounds_toArray, List.set_cons_zero, List.set_cons_succ])
  refine wpAnyH_ready (rs := [5]) (by kernel_rfl) (by simp) ?_
  refine AllReadyH.cons rfl (fun K hK => ?_) AllReadyH.nil
  go_simp
  refine FI.out.mono ?_
  rintro e w4 ⟨v4, rfl, o4, b4⟩
  replace rg_y0 := keepc b4 rg_y0
  replace rg_y1 := keepc b4 rg_y1
  refine hK.out _ _ ⟨rg_y0, rg_y1⟩ (fun hHeld => ?_)
  clear hK K
  (try simp only [Act.put, List.getElem_toArray, List.getElem_cons_succ, List.getElem_cons_zero, List.setIfInBounds_toArray, List.set_cons_zero, List.set_cons_succ])
  refine wpAnyH_take (i := 8) (v := v4) rfl (by kernel_rfl) (by kernel_rfl) (by kernel_rfl) (fun _ _ _ h => h) (Or.inl ⟨by rfl, ?_⟩) (by assumption) ?_
  · (intro w hSw; (try dsimp only at hSw); go_simp)
  (try simp only [Act.put, List.getElem_toArray, List.getElem_cons_succ, List.getElem_cons_zero, List.setIfInBounds_toArray, List.set_cons_zero, List.set_cons_succ])
  refine wpAnyH_take (i := 9) (v := .int .i64 FM) rfl (by kernel_rfl) (by kernel_rfl) (by kernel_rfl) (fun _ _ _ h => h) (Or.inl ⟨by rfl, ?_⟩) (by assumption) ?_
  · (intro w hSw; (try dsimp only at hSw); go_simp)
  (try simp only [Act.put, List.getElem_toArray, List.getElem_cons_succ, List.getElem_cons_zero, List.setIfInBounds_toArray, List.set_cons_zero, List.set_cons_succ])
  refine wpAnyH_take (i := 10) (v := .int .i64 0) rfl (by kernel_rfl) (by kernel_rfl) (by kernel_rfl) (fun _ _ _ h => h) (Or.inl ⟨by rfl, ?_⟩) (by assumption) ?_
  · (intro w hSw; (try dsimp only at hSw); go_simp)
  (try simp only [Act.put, List.getElem_toArray, List.getElem_cons_succ, List.getElem_cons_zero, List.setIfInBounds_toArray, List.set_cons_zero, List.set_cons_succ])
  refine wpAnyH_done (by kernel_rfl) ?_ _
  clear hHeld rg_y0 rg_y1
  have O4 := hid o4
  have B4 := hid (B2.out.trans (((below_drewN WB.out 1).trans (b4.mono (by simp))).mono B2.out.size))
  clear o4 b4 FI
  go_wp2
  go_ret3
  refine ⟨_, ret3 E3.out.symm E1.out.symm, ?_, B4.out⟩
  rw [E2.out, HFR.out]
  exact O4.out.weaken (Nat.le_trans B2.out.size (by simp))

/-- What is found. -/
def fndO (ns : List Nd) (ls : List Lz) (nc nm : Int) : Option Nat := tgt (ns.map (rmA ls)) nc nm ns.length
def needB (nc nm : Int) : Bool := decide (nc < 1) || decide (64 < nc) || decide (chk nc nm ≠ 0)
def fndE (ns : List Nd) (ls : List Lz) (nc nm : Int) : Int := if plE ns ls = 0 then (if needB nc nm = true then 1 else if (fndO ns ls nc nm).isSome then 0 else 10) else plE ns ls
def fndI (ns : List Nd) (ls : List Lz) (nc nm : Int) : Int := if fndE ns ls nc nm = 0 then (da ns ((fndO ns ls nc nm).getD 0)).id else 0
def fndL (ns : List Nd) (ls : List Lz) (nc nm : Int) : List Int := if fndE ns ls nc nm = 0 then (frL ns ls ((fndO ns ls nc nm).getD 0)).take nc.toNat else []
theorem tgt_fit {l : List Rm} {c m : Int} : ∀ {k b : Nat}, tgt l c m k = some b → fitB c m (ra l b).fc (ra l b).fm = true := by
  intro k
  induction k with
  | zero => intro b h; cases h
  | succ k ih =>
    intro b h
    unfold tgt stepT at h
    cases ho : tgt l c m k with
    | none =>
      rw [ho] at h
      simp only at h
      split at h
      · cases h; assumption
      · cases h
    | some b' =>
      rw [ho] at h
      simp only at h
      split at h
      · rename_i h1
        rw [Bool.and_eq_true] at h1
        cases h; exact h1.1
      · cases h; exact ih ho
theorem fnd_fit {ns : List Nd} {ls : List Lz} {nc nm : Int} {j : Nat} (hE : plE ns ls = 0) (h : fndO ns ls nc nm = some j) : j < ns.length ∧ nc ≤ ((frL ns ls j).length : Int) ∧ nm ≤ frM ns ls j := by
  obtain ⟨h64, hn, hp⟩ := plE_zero hE
  have hj := tgt_lt h
  have hf := tgt_fit h
  rw [ra_map ns ls hj] at hf
  unfold fitB at hf
  rw [Bool.and_eq_true, decide_eq_true_eq, decide_eq_true_eq, fc_free hn hp hj] at hf
  exact ⟨hj, hf.1, hf.2⟩

set_option maxRecDepth 100000 in
set_option maxHeartbeats 8000000 in
theorem pfind_any (a : Option Addr) (len cap : Nat) (ns : List Nd) (qa : Option Addr) (ql qc : Nat) (l : List Le) (nc nm : Int) (w : World) (h : HoldsD w a len cap ns) (hl : HoldsL w qa ql qc l) :
    Calls Try.prog 17 #[.slice a len cap, .slice qa ql qc, .agg #[.int .i64 nc, .int .i64 nm]] w fun e w' => ∃ v, e = .returned (.tuple #[.int .i64 (fndI ns (l.map Le.z) nc nm), v, .int .i64 (fndE ns (l.map Le.z) nc nm)]) ∧ NewN w.heap.size w' v (fndL ns (l.map Le.z) nc nm).length (fndL ns (l.map Le.z) nc nm) ∧ Below w.heap.size w w' := by
  have B0 : Hid (Below w.heap.size w (w.alloc (.cells #[.int .i64 nc, .int .i64 nm] 25))) := (Below.refl _ w).alloc (Nat.le_refl _) _
  have M0 : Hid ((w.alloc (.cells #[.int .i64 nc, .int .i64 nm] 25)).cell? ⟨w.heap.size, 0, none⟩ = some (.int .i64 nc)) := by unfold Hid; simp [go_sem]
  have M1 : Hid ((w.alloc (.cells #[.int .i64 nc, .int .i64 nm] 25)).cell? ⟨w.heap.size, 1, none⟩ = some (.int .i64 nm)) := by unfold Hid; simp [go_sem]
  have RD := hid (pread_any a len cap ns qa ql qc l (w.alloc (.cells #[.int .i64 nc, .int .i64 nm] 25)) (h.below B0.out) (hl.below B0.out))
  have HL := hid h.1
  clear h hl
  generalize l.map Le.z = ls at *
  have HSZ : Hid ((w.alloc (.cells #[.int .i64 nc, .int .i64 nm] 25)).heap.size = w.heap.size + 1) := by unfold Hid; simp
  by_cases hE : plE ns ls = 0
  case neg =>
    have t : (plE ns ls != 0) = true := by simpa using hE
    have E1 : Hid (fndE ns ls nc nm = plE ns ls) := by unfold Hid fndE; rw [if_neg hE]
    have E2 : Hid (fndL ns ls nc nm = []) := by unfold Hid fndL; rw [E1.out, if_neg hE]
    have E3 : Hid (fndI ns ls nc nm = 0) := by unfold Hid fndI; rw [E1.out, if_neg hE]
    clear hE
    generalize plE ns ls = PE at *
    go_enter Try.func17, Try.ntmps17
    go_wp2_with fail
    refine RD.out.mono ?_
    rintro e w1 ⟨v1, rfl, o1, b1⟩
    have BB := hid (B0.out.trans (b1.mono B0.out.size))
    clear o1 b1
    go_wp2
    go_ret3
    exact ⟨_, ret3' E3.out.symm E1.out.symm, NewN.none _ _ E2.out, BB.out⟩
  obtain ⟨h64, hn, hp⟩ := plE_zero hE
  have HN := hid hn
  have HP := hid hp
  have hlen : len ≤ 64 := by rw [← HL.out]; exact h64
  rw [hE] at RD
  have HE := hid hE
  clear hE hn hp h64
  have EC : Hid (fndE ns ls nc nm = if needB nc nm = true then 1 else if (fndO ns ls nc nm).isSome then 0 else 10) := by unfold Hid fndE; rw [if_pos HE.out]
  have CK := hid (fun W => check_any nc nm W)
  have NB : Hid (needB nc nm = true → (∀ x y : Prop, fndE ns ls nc nm = 1 ∧ fndL ns ls nc nm = [] ∧ fndI ns ls nc nm = 0)) := fun h _ _ => by
    have e : fndE ns ls nc nm = 1 := by rw [EC.out, if_pos h]
    exact ⟨e, by unfold fndL; rw [e]; rfl, by unfold fndI; rw [e]; rfl⟩
  go_enter Try.func17, Try.ntmps17
  go_wp2_with fail
  refine RD.out.mono ?_
  rintro e w1 ⟨v1, rfl, o1, b1⟩
  have R1 : ∃ a cap, v1 = .slice a len cap ∧ Rooms (w.alloc (.cells #[.int .i64 nc, .int .i64 nm] 25)).heap.size w1 a len cap (ns.map (rmA ls)) := by
    rcases o1 with ⟨h, _⟩ | ⟨_, h⟩
    · exact absurd rfl h
    · exact h
  obtain ⟨ra, rc, rfl, hr⟩ := R1
  rw [HSZ.out] at hr
  have R1 := hid hr
  have m0 := keepc b1 M0.out
  have m1 := keepc b1 M1.out
  have B1 := hid (B0.out.trans (b1.mono B0.out.size))
  clear hr b1 o1 RD M0 M1
  by_cases g1 : nc < 1
  · have t1 : decide (nc < 1) = true := by simpa using g1
    obtain ⟨e1, e2, e3⟩ := NB.out (by unfold needB; rw [t1]; rfl) True True
    have E1 := hid e1
    have E2 := hid e2
    have E3 := hid e3
    clear e1 e2 e3
    go_wp2
    go_ret3
    exact ⟨_, ret3' E3.out.symm E1.out.symm, NewN.none _ _ E2.out, B1.out⟩
  have t1 : decide (nc < 1) = false := by simpa using g1
  by_cases g2 : 64 < nc
  · have t2 : decide (64 < nc) = true := by simpa using g2
    obtain ⟨e1, e2, e3⟩ := NB.out (by unfold needB; rw [t1, t2]; rfl) True True
    have E1 := hid e1
    have E2 := hid e2
    have E3 := hid e3
    clear e1 e2 e3
    go_wp2
    go_ret3
    exact ⟨_, ret3' E3.out.symm E1.out.symm, NewN.none _ _ E2.out, B1.out⟩
  have t2 : decide (64 < nc) = false := by simpa using g2
  by_cases g3 : chk nc nm ≠ 0
  · have t3 : (chk nc nm != 0) = true := by simpa using g3
    obtain ⟨e1, e2, e3⟩ := NB.out (by unfold needB; rw [t1, t2, decide_eq_true g3]; rfl) True True
    have E1 := hid e1
    have E2 := hid e2
    have E3 := hid e3
    clear e1 e2 e3 g3 NB
    generalize chk nc nm = CE at *
    go_wp2_with fail
    refine (CK.out _).mono ?_
    rintro e w2 ⟨rfl, b2⟩
    have B2 := hid (B1.out.trans (b2.mono B1.out.size))
    clear b2
    go_wp2
    go_ret3
    exact ⟨_, ret3' E3.out.symm E1.out.symm, NewN.none _ _ E2.out, B2.out⟩
  have nb : needB nc nm = false := by unfold needB; rw [t1, t2, decide_eq_false g3]; rfl
  have hck : chk nc nm = 0 := by simpa using g3
  rw [hck] at CK
  rw [nb] at EC
  clear NB g3 nb hck
  go_wp2_with fail
  refine (CK.out _).mono ?_
  rintro e w2 ⟨rfl, b2⟩
  have B2 := hid (B1.out.trans (b2.mono B1.out.size))
  have R2 := hid (R1.out.below b2)
  replace m0 := keepc b2 m0
  replace m1 := keepc b2 m1
  clear b2 R1
  have TG := hid (tightest_any ra len rc _ (ns.map (rmA ls)) nc nm w2 R2.out hlen)
  go_wp2_with fail
  refine TG.out.mono ?_
  rintro e w3 ⟨v3, f3, rfl, o3, b3⟩
  rw [← HL.out] at o3
  have B3 := hid (B2.out.trans (b3.mono B2.out.size))
  have R3 := hid (R2.out.below b3)
  replace m0 := keepc b3 m0
  clear b3 R2 m1 TG
  rcases o3 with ⟨ho, rfl, rfl⟩ | ⟨j, ho, rfl, rfl⟩
  · have ho' : fndO ns ls nc nm = none := ho
    rw [ho'] at EC
    have E1 : Hid (fndE ns ls nc nm = 10) := EC.out
    have E2 : Hid (fndL ns ls nc nm = []) := by unfold Hid fndL; rw [E1.out]; rfl
    have E3 : Hid (fndI ns ls nc nm = 0) := by unfold Hid fndI; rw [E1.out]; rfl
    clear ho ho' EC
    go_wp2
    go_ret3
    exact ⟨_, ret3' E3.out.symm E1.out.symm, NewN.none _ _ E2.out, B3.out⟩
  have ho' : fndO ns ls nc nm = some j := ho
  rw [ho'] at EC
  have E1 : Hid (fndE ns ls nc nm = 0) := EC.out
  have E2 : Hid (fndL ns ls nc nm = (frL ns ls j).take nc.toNat) := by unfold Hid fndL; rw [E1.out, if_pos rfl, ho']; rfl
  have E3 : Hid (fndI ns ls nc nm = (da ns j).id) := by unfold Hid fndI; rw [E1.out, if_pos rfl, ho']; rfl
  obtain ⟨hj, hfc, hfm⟩ := fnd_fit HE.out ho'
  have hj' : j < len := by rw [← HL.out]; exact hj
  rcases R3.out.2 with ⟨_, h0⟩ | ⟨g, rfl, hg1, hg2, hg3⟩
  · omega
  have RG := R3.out.at' hj
  have y0 := RG 0 _ (Rm.at_id _)
  rw [Nat.add_zero, show (rmA ls (da ns j)).nd = da ns j from rfl] at y0
  have hN := ((ndsB_iff.1 HN.out).1 j hj).1
  obtain ⟨cn, hcn⟩ : ∃ c : Nat, nc = c := ⟨nc.toNat, by omega⟩
  have hcn2 : nc.toNat = cn := by omega
  have hlt : cn ≤ (frL ns ls j).length := by omega
  have FI := hid (first_any g (j * 71) (da ns j).co.toNat cn (rmA ls (da ns j)) w3.drew (rangeAt_drew RG) (by show (da ns j).co = _; omega) (by omega) hlt)
  rw [show freeT (rmA ls (da ns j)).tk (da ns j).co.toNat = frL ns ls j from rfl, ← hcn] at FI
  rw [hcn2] at E2
  have LL : Hid (((frL ns ls j).take cn).length = cn) := by unfold Hid; rw [List.length_take]; omega
  have ja : (0 : Int) ≤ (j : Int) := by omega
  have jb : (j : Int) < (len : Int) := by omega
  clear R3 RG hg3 hN hfc hfm ho ho' hcn hcn2 hlt EC t1 t2 g1 g2
  generalize (da ns j).id = ID at *
  go_upto_region 9 with fail
  have rg_y0 := drewc y0
  have rg_m0 := drewc m0
  refine wp_region_held_drew (S := (fun w' => w'.cell? ⟨g, j * 71, none⟩ = some (.int .i64 ID) ∧ w'.cell? ⟨w.heap.size, 0, none⟩ = some (.int .i64 nc))) (by kernel_rfl) ⟨rg_y0, rg_m0⟩ (fun hHeld => ?_)
  refine wpAnyH_take (i := 0) (v := .slice (some ⟨g, 0, none⟩) len rc) rfl (by kernel_rfl) (by kernel_rfl) (by kernel_rfl) (fun _ _ _ h => h) (Or.inl ⟨by rfl, ?_⟩) (by assumption) ?_
  · (intro w hSw; (try dsimp only at hSw); go_simp)
  (try simp only [Act.put, List.getElem_toArray, List.getElem_cons_succ, List.getElem_cons_zero, List.setIfInBounds_toArray, List.set_cons_zero, List.set_cons_succ])
  refine wpAnyH_take (i := 1) (v := .int .i64 (j : Int)) rfl (by kernel_rfl) (by kernel_rfl) (by kernel_rfl) (fun _ _ _ h => h) (Or.inl ⟨by rfl, ?_⟩) (by assumption) ?_
  · (intro w hSw; (try dsimp only at hSw); go_simp)
  (try simp only [Act.put, List.getElem_toArray, List.getElem_cons_succ, List.getElem_cons_zero, List.setIfInBounds_toArray, List.set_cons_zero, List.set_cons_succ])
  refine wpAnyH_take (i := 2) (v := .pointer (some ⟨g, j * 71, none⟩)) rfl (by kernel_rfl) (by kernel_rfl) (by kernel_rfl) (fun _ _ _ h => h) (Or.inl ⟨by rfl, ?_⟩) (by assumption) ?_
  · (intro w hSw; (try dsimp only at hSw); go_simp)
  (try simp only [Act.put, List.getElem_toArray, List.getElem_cons_succ, List.getElem_cons_zero, List.setIfInBounds_toArray, List.set_cons_zero, List.set_cons_succ])
  refine wpAnyH_take (i := 3) (v := .pointer (some ⟨g, j * 71, none⟩)) rfl (by kernel_rfl) (by kernel_rfl) (by kernel_rfl) (fun _ _ _ h => h) (Or.inl ⟨by rfl, ?_⟩) (by assumption) ?_
  · (intro w hSw; (try dsimp only at hSw); go_simp)
  (try simp only [Act.put, List.getElem_toArray, List.getElem_cons_succ, List.getElem_cons_zero, List.setIfInBounds_toArray, List.set_cons_zero, List.set_cons_succ])
  refine wpAnyH_take (i := 4) (v := .pointer (some ⟨g, j * 71, none⟩)) rfl (by kernel_rfl) (by kernel_rfl) (by kernel_rfl) (fun _ _ _ h => h) (Or.inl ⟨by rfl, ?_⟩) (by assumption) ?_
  · (intro w hSw; (try dsimp only at hSw); go_simp)
  (try simp only [Act.put, List.getElem_toArray, List.getElem_cons_succ, List.getElem_cons_zero, List.setIfInBounds_toArray, List.set_cons_zero, List.set_cons_succ])
  refine wpAnyH_take (i := 5) (v := .int .i64 ID) rfl (by kernel_rfl) (by kernel_rfl) (by kernel_rfl) (fun _ _ _ h => h) (Or.inl ⟨by rfl, ?_⟩) (by assumption) ?_
  · (intro w hSw; (try dsimp only at hSw); go_simp)
  (try simp only [Act.put, List.getElem_toArray, List.getElem_cons_succ, List.getElem_cons_zero, List.setIfInBounds_toArray, List.set_cons_zero, List.set_cons_succ])
  refine wpAnyH_take (i := 6) (v := .slice (some ⟨g, 0, none⟩) len rc) rfl (by kernel_rfl) (by kernel_rfl) (by kernel_rfl) (fun _ _ _ h => h) (Or.inl ⟨by rfl, ?_⟩) (by assumption) ?_
  · (intro w hSw; (try dsimp only at hSw); go_simp)
  (try simp only [Act.put, List.getElem_toArray, List.getElem_cons_succ, List.getElem_cons_zero, List.setIfInBounds_toArray, List.set_cons_zero, List.set_cons_succ])
  refine wpAnyH_take (i := 7) (v := .int .i64 (j : Int)) rfl (by kernel_rfl) (by kernel_rfl) (by kernel_rfl) (fun _ _ _ h => h) (Or.inl ⟨by rfl, ?_⟩) (by assumption) ?_
  · (intro w hSw; (try dsimp only at hSw); go_simp)
  (try simp only [Act.put, List.getElem_toArray, List.getElem_cons_succ, List.getElem_cons_zero, List.setIfInBounds_toArray, List.set_cons_zero, List.set_cons_succ])
  refine wpAnyH_take (i := 8) (v := .pointer (some ⟨g, j * 71, none⟩)) rfl (by kernel_rfl) (by kernel_rfl) (by kernel_rfl) (fun _ _ _ h => h) (Or.inl ⟨by rfl, ?_⟩) (by assumption) ?_
  · (intro w hSw; (try dsimp only at hSw); go_simp)
  (try simp only [Act.put, List.getElem_toArray, List.getElem_cons_succ, List.getElem_cons_zero, List.setIfInBounds_toArray, List.set_cons_zero, List.set_cons_succ])
  refine wpAnyH_take (i := 9) (v := .pointer (some ⟨w.heap.size, 0, none⟩)) rfl (by kernel_rfl) (by kernel_rfl) (by kernel_rfl) (fun _ _ _ h => h) (Or.inl ⟨by rfl, ?_⟩) (by assumption) ?_
  · (intro w hSw; (try dsimp only at hSw); go_simp)
  (try simp only [Act.put, List.getElem_toArray, List.getElem_cons_succ, List.getElem_cons_zero, List.setIfInBounds_toArray, List.set_cons_zero, List.set_cons_succ])
  refine wpAnyH_take (i := 10) (v := .int .i64 nc) rfl (by kernel_rfl) (by kernel_rfl) (by kernel_rfl) (fun _ _ _ h => h) (Or.inl ⟨by rfl, ?_⟩) (by assumption) ?_
  · (intro w hSw; (try dsimp only at hSw); go_simp)
  (try simp only [Act.put, List.getElem_toArray, List.getElem_cons_succ, List.getElem_cons_zero, List.setIfInBounds_toArray, List.set_cons_zero, List.set_cons_succ])
  refine wpAnyH_ready (rs := [11]) (by kernel_rfl) (by simp) ?_
  refine AllReadyH.cons rfl (fun K hK => ?_) AllReadyH.nil
  go_simp
  refine FI.out.mono ?_
  rintro e w4 ⟨v4, rfl, o4, b4⟩
  replace rg_y0 := keepc b4 rg_y0
  replace rg_m0 := keepc b4 rg_m0
  refine hK.out _ _ ⟨rg_y0, rg_m0⟩ (fun hHeld => ?_)
  clear hK K
  (try simp only [Act.put, List.getElem_toArray, List.getElem_cons_succ, List.getElem_cons_zero, List.setIfInBounds_toArray, List.set_cons_zero, List.set_cons_succ])
  refine wpAnyH_take (i := 12) (v := .int .i64 ID) rfl (by kernel_rfl) (by kernel_rfl) (by kernel_rfl) (fun _ _ _ h => h) (Or.inl ⟨by rfl, ?_⟩) (by assumption) ?_
  · (intro w hSw; (try dsimp only at hSw); go_simp)
  (try simp only [Act.put, List.getElem_toArray, List.getElem_cons_succ, List.getElem_cons_zero, List.setIfInBounds_toArray, List.set_cons_zero, List.set_cons_succ])
  refine wpAnyH_take (i := 13) (v := v4) rfl (by kernel_rfl) (by kernel_rfl) (by kernel_rfl) (fun _ _ _ h => h) (Or.inl ⟨by rfl, ?_⟩) (by assumption) ?_
  · (intro w hSw; (try dsimp only at hSw); go_simp)
  (try simp only [Act.put, List.getElem_toArray, List.getElem_cons_succ, List.getElem_cons_zero, List.setIfInBounds_toArray, List.set_cons_zero, List.set_cons_succ])
  refine wpAnyH_take (i := 14) (v := .int .i64 0) rfl (by kernel_rfl) (by kernel_rfl) (by kernel_rfl) (fun _ _ _ h => h) (Or.inl ⟨by rfl, ?_⟩) (by assumption) ?_
  · (intro w hSw; (try dsimp only at hSw); go_simp)
  (try simp only [Act.put, List.getElem_toArray, List.getElem_cons_succ, List.getElem_cons_zero, List.setIfInBounds_toArray, List.set_cons_zero, List.set_cons_succ])
  refine wpAnyH_done (by kernel_rfl) ?_ _
  clear hHeld rg_y0 rg_m0
  have O4 := hid o4
  have B4 := hid (B3.out.trans (((Below.refl w3.heap.size w3).drew.trans b4).mono B3.out.size))
  clear o4 b4 FI
  go_wp2
  go_ret3
  refine ⟨_, ret3' E3.out.symm E1.out.symm, ?_, B4.out⟩
  rw [E2.out, LL.out]
  exact O4.out.weaken B3.out.size

end Go.Proofs.Ytikalkigmnipiaa
