/-
  Contracts of command: the writer's numbers.
-/
import Derived.Test.YtkjglpgjflkmbaaCA
import Derived.Deep.Cut
namespace Go.Proofs.Ytkjglpgjflkmbaa
open Go.RowKit Go.Deep
set_option linter.unusedVariables false
set_option linter.unusedSimpArgs false

theorem holdsB_none (w : World) : HoldsB w none 0 0 [] := ⟨rfl, by omega, by omega, by omega, (fun x hx => by cases hx), fun _ => ⟨rfl, rfl⟩, fun h => absurd h (by omega)⟩
theorem lay0_any (x : Int) (w : World) (h0 : 0 ≤ x) (h1 : x ≤ 18446744073709551615) :
    Calls Try.prog 119 #[.slice none 0 0, .int .u64 x] w fun e w' => ∃ g, e = .returned (.slice (some ⟨g, 0, none⟩) (numB x).length (numB x).length) ∧ HoldsB w' (some ⟨g, 0, none⟩) (numB x).length (numB x).length (numB x) ∧ Below w.heap.size w w' := by
  refine (lay_any none 0 0 [] x w (holdsB_none w) h0 h1 (by omega)).mono ?_
  rintro e w' ⟨g, rfl, h2, b2⟩
  have h3 := h2.own.holds
  rw [List.nil_append, Nat.zero_add, ← numB_len] at h3
  exact ⟨g, by rw [numB_len, Nat.zero_add], h3, b2⟩
theorem layint0_any (x : Int) (w : World) (hx : I64 x) :
    Calls Try.prog 102 #[.slice none 0 0, .int .i64 x] w fun e w' => ∃ g, e = .returned (.slice (some ⟨g, 0, none⟩) (numB (zig x)).length (numB (zig x)).length) ∧ HoldsB w' (some ⟨g, 0, none⟩) (numB (zig x)).length (numB (zig x)).length (numB (zig x)) ∧ Below w.heap.size w w' := by
  refine (layint_any none 0 0 [] x w (holdsB_none w) hx (by omega)).mono ?_
  rintro e w' ⟨g, rfl, h2, b2⟩
  have h3 := h2.own.holds
  rw [List.nil_append, Nat.zero_add, ← numB_len] at h3
  exact ⟨g, by rw [numB_len, Nat.zero_add], h3, b2⟩

set_option maxRecDepth 100000 in
set_option maxHeartbeats 4000000 in
theorem cnumber_any (p : Nat) (x : Int) (w : World) (v : Value) (l : List Int) (lg bz : Bool) (h : Wr w p v l lg bz) (h0 : 0 ≤ x) (h1 : x ≤ 18446744073709551615) (hm : l.length + 9 ≤ 140737488355328) :
    Calls Try.prog 104 #[.pointer (some ⟨p, 0, none⟩), .int .u64 x] w fun e w' => (∃ r, e = .returned r) ∧ ∃ v', Wr w' p v' (l ++ numB x) lg bz ∧ WK p v w w' v' := by
  have HW := hid h
  have LAY := hid (fun W => lay0_any x W h0 h1)
  have hn9 : (numB x).length ≤ 9 := by rw [numB_len]; have := shelf_le x; omega
  clear h h0 h1
  generalize numB x = BS at *
  go_enter Try.func104, Try.ntmps104
  go_upto_region 0 with fail
  have HD := hid (HW.out.below (Below.drew (Below.refl w.heap.size w)))
  have KD : Hid (WK p v w w.drew v) := WK.of_below (Below.drew (Below.refl _ _))
  refine wp_region_held_drew (S := fun _ => True) (by kernel_rfl) trivial (fun hHeld => ?_)
  refine wpAnyH_take (i := 0) (v := .pointer (some ⟨p, 0, none⟩)) rfl (by kernel_rfl) (by kernel_rfl) (by kernel_rfl) (fun _ _ _ h => h) (Or.inl ⟨by rfl, ?_⟩) (by assumption) ?_
  · (intro w hSw; (try dsimp only at hSw); go_simp)
  (try simp only [Act.put, List.getElem_toArray, List.getElem_cons_succ, List.getElem_cons_zero, List.setIfInBounds_toArray, List.set_cons_zero, List.set_cons_succ])
  refine wpAnyH_take (i := 1) (v := .pointer (some ⟨p, 0, none⟩)) rfl (by kernel_rfl) (by kernel_rfl) (by kernel_rfl) (fun _ _ _ h => h) (Or.inl ⟨by rfl, ?_⟩) (by assumption) ?_
  · (intro w hSw; (try dsimp only at hSw); go_simp)
  (try simp only [Act.put, List.getElem_toArray, List.getElem_cons_succ, List.getElem_cons_zero, List.setIfInBounds_toArray, List.set_cons_zero, List.set_cons_succ])
  refine wpAnyH_take (i := 2) (v := .pointer (some ⟨p, 0, none⟩)) rfl (by kernel_rfl) (by kernel_rfl) (by kernel_rfl) (fun _ _ _ h => h) (Or.inl ⟨by rfl, ?_⟩) (by assumption) ?_
  · (intro w hSw; (try dsimp only at hSw); go_simp)
  (try simp only [Act.put, List.getElem_toArray, List.getElem_cons_succ, List.getElem_cons_zero, List.setIfInBounds_toArray, List.set_cons_zero, List.set_cons_succ])
  refine wpAnyH_take (i := 3) (v := .pointer (some ⟨p, 0, none⟩)) rfl (by kernel_rfl) (by kernel_rfl) (by kernel_rfl) (fun _ _ _ h => h) (Or.inl ⟨by rfl, ?_⟩) (by assumption) ?_
  · (intro w hSw; (try dsimp only at hSw); go_simp)
  (try simp only [Act.put, List.getElem_toArray, List.getElem_cons_succ, List.getElem_cons_zero, List.setIfInBounds_toArray, List.set_cons_zero, List.set_cons_succ])
  refine wpAnyH_take (i := 5) (v := .int .u64 x) rfl (by kernel_rfl) (by kernel_rfl) (by kernel_rfl) (fun _ _ _ h => h) (Or.inl ⟨by rfl, ?_⟩) (by assumption) ?_
  · (intro w hSw; (try dsimp only at hSw); go_simp)
  (try simp only [Act.put, List.getElem_toArray, List.getElem_cons_succ, List.getElem_cons_zero, List.setIfInBounds_toArray, List.set_cons_zero, List.set_cons_succ])
  generalize w.drew = wd at *
  refine wpAnyH_ready (rs := [4, 6]) (by kernel_rfl) (by simp) ?_
  refine AllReadyH.cons rfl (fun K hK => ?_) ?_
  · skip
    have c0 := HD.out.1.1.1
    go_simp
    refine hK.out _ _ trivial (fun hHeld => ?_)
    clear hK K c0
    (try simp only [Act.put, List.getElem_toArray, List.getElem_cons_succ, List.getElem_cons_zero, List.setIfInBounds_toArray, List.set_cons_zero, List.set_cons_succ])
    refine wpAnyH_ready (rs := [6]) (by kernel_rfl) (by simp) ?_
    refine AllReadyH.cons rfl (fun K hK => ?_) AllReadyH.nil
    go_simp
    with_reducible refine (LAY.out _).mono ?_
    rintro e x1 ⟨g, rfl, o1, b1⟩
    have HR := hid (HD.out.below b1)
    have KR := hid (KD.out.trans (WK.of_below b1))
    have HB8 := hid o1
    clear o1 b1
    refine hK.out _ _ trivial (fun hHeld => ?_)
    clear hK K
    (try simp only [Act.put, List.getElem_toArray, List.getElem_cons_succ, List.getElem_cons_zero, List.setIfInBounds_toArray, List.set_cons_zero, List.set_cons_succ])
    refine wpAnyH_ready (rs := [7]) (by kernel_rfl) (by simp) ?_
    refine AllReadyH.cons rfl (fun K hK => ?_) AllReadyH.nil
    refine appB_step x1 rfl (.tmp 8) (.tmp 10) rfl (p + 1) l.length v l rfl HR.out.2 (by have := HR.out.lt; omega) (some ⟨g, 0, none⟩) BS.length BS.length BS rfl HB8.out (by omega) ?_
    intro v' w9 oo hg hv
    obtain ⟨va, vc, rfl⟩ := oo.form
    have hblk : w9.heap[p]? = x1.heap[p]? := hg.block p HR.out.lt (fun e => by have := HR.out.row p e.symm; omega)
    have d1 : w9.cell? ⟨p, 0, none⟩ = some v := (World.cell?_of_block hblk).trans HR.out.1.1.1
    have g1 : w9.frozen? ⟨p, 0, none⟩ = false := (World.frozen?_of_block hblk).trans HR.out.1.2.1
    have PW := hid (wr_put HR.out hg hv (l' := l ++ BS) (by rw [List.length_append]; exact oo))
    clear hg hv oo hblk
    refine hK.out _ _ trivial (fun hHeld => ?_)
    clear hK K
    (try simp only [Act.put, List.getElem_toArray, List.getElem_cons_succ, List.getElem_cons_zero, List.setIfInBounds_toArray, List.set_cons_zero, List.set_cons_succ])
    refine wpAnyH_take (i := 8) (v := .pointer (some ⟨p, 0, none⟩)) rfl (by kernel_rfl) (by kernel_rfl) (by kernel_rfl) (fun _ _ _ h => h) (Or.inl ⟨by rfl, ?_⟩) (by assumption) ?_
    · (intro w hSw; (try dsimp only at hSw); go_simp)
    (try simp only [Act.put, List.getElem_toArray, List.getElem_cons_succ, List.getElem_cons_zero, List.setIfInBounds_toArray, List.set_cons_zero, List.set_cons_succ])
    refine wpAnyH_take (i := 9) (v := .pointer (some ⟨p, 0, none⟩)) rfl (by kernel_rfl) (by kernel_rfl) (by kernel_rfl) (fun _ _ _ h => h) (Or.inl ⟨by rfl, ?_⟩) (by assumption) ?_
    · (intro w hSw; (try dsimp only at hSw); go_simp)
    (try simp only [Act.put, List.getElem_toArray, List.getElem_cons_succ, List.getElem_cons_zero, List.setIfInBounds_toArray, List.set_cons_zero, List.set_cons_succ])
    refine wpAnyH_ready (rs := [10]) (by kernel_rfl) (by simp) ?_
    refine AllReadyH.cons rfl (fun K hK => ?_) AllReadyH.nil
    go_simp
    refine hK.out _ _ trivial (fun hHeld => ?_)
    clear hK K d1 g1
    (try simp only [Act.put, List.getElem_toArray, List.getElem_cons_succ, List.getElem_cons_zero, List.setIfInBounds_toArray, List.set_cons_zero, List.set_cons_succ])
    refine wpAnyH_done (by kernel_rfl) ?_ _
    clear hHeld
    have HF := hid PW.out.1
    have KF := hid (KR.out.trans PW.out.2)
    clear PW HR KR HB8 HD KD
    generalize w9.setCell ⟨p, 0, none⟩ (.slice va (l.length + BS.length) vc) = wf at *
    go_wp2_with fail
    go_end0
    exact ⟨⟨_, rfl⟩, _, HF.out, KF.out⟩
  refine AllReadyH.cons rfl (fun K hK => ?_) AllReadyH.nil
  go_simp
  with_reducible refine (LAY.out _).mono ?_
  rintro e x1 ⟨g, rfl, o1, b1⟩
  have HR := hid (HD.out.below b1)
  have KR := hid (KD.out.trans (WK.of_below b1))
  have HB8 := hid o1
  clear o1 b1
  refine hK.out _ _ trivial (fun hHeld => ?_)
  clear hK K
  (try simp only [Act.put, List.getElem_toArray, List.getElem_cons_succ, List.getElem_cons_zero, List.setIfInBounds_toArray, List.set_cons_zero, List.set_cons_succ])
  have c0 := HR.out.1.1.1
  refine wpAnyH_ready (rs := [4]) (by kernel_rfl) (by simp) ?_
  refine AllReadyH.cons rfl (fun K hK => ?_) AllReadyH.nil
  go_simp
  refine hK.out _ _ trivial (fun hHeld => ?_)
  clear hK K c0
  (try simp only [Act.put, List.getElem_toArray, List.getElem_cons_succ, List.getElem_cons_zero, List.setIfInBounds_toArray, List.set_cons_zero, List.set_cons_succ])
  refine wpAnyH_ready (rs := [7]) (by kernel_rfl) (by simp) ?_
  refine AllReadyH.cons rfl (fun K hK => ?_) AllReadyH.nil
  refine appB_step x1 rfl (.tmp 8) (.tmp 10) rfl (p + 1) l.length v l rfl HR.out.2 (by have := HR.out.lt; omega) (some ⟨g, 0, none⟩) BS.length BS.length BS rfl HB8.out (by omega) ?_
  intro v' w9 oo hg hv
  obtain ⟨va, vc, rfl⟩ := oo.form
  have hblk : w9.heap[p]? = x1.heap[p]? := hg.block p HR.out.lt (fun e => by have := HR.out.row p e.symm; omega)
  have d1 : w9.cell? ⟨p, 0, none⟩ = some v := (World.cell?_of_block hblk).trans HR.out.1.1.1
  have g1 : w9.frozen? ⟨p, 0, none⟩ = false := (World.frozen?_of_block hblk).trans HR.out.1.2.1
  have PW := hid (wr_put HR.out hg hv (l' := l ++ BS) (by rw [List.length_append]; exact oo))
  clear hg hv oo hblk
  refine hK.out _ _ trivial (fun hHeld => ?_)
  clear hK K
  (try simp only [Act.put, List.getElem_toArray, List.getElem_cons_succ, List.getElem_cons_zero, List.setIfInBounds_toArray, List.set_cons_zero, List.set_cons_succ])
  refine wpAnyH_take (i := 8) (v := .pointer (some ⟨p, 0, none⟩)) rfl (by kernel_rfl) (by kernel_rfl) (by kernel_rfl) (fun _ _ _ h => h) (Or.inl ⟨by rfl, ?_⟩) (by assumption) ?_
  · (intro w hSw; (try dsimp only at hSw); go_simp)
  (try simp only [Act.put, List.getElem_toArray, List.getElem_cons_succ, List.getElem_cons_zero, List.setIfInBounds_toArray, List.set_cons_zero, List.set_cons_succ])
  refine wpAnyH_take (i := 9) (v := .pointer (some ⟨p, 0, none⟩)) rfl (by kernel_rfl) (by kernel_rfl) (by kernel_rfl) (fun _ _ _ h => h) (Or.inl ⟨by rfl, ?_⟩) (by assumption) ?_
  · (intro w hSw; (try dsimp only at hSw); go_simp)
  (try simp only [Act.put, List.getElem_toArray, List.getElem_cons_succ, List.getElem_cons_zero, List.setIfInBounds_toArray, List.set_cons_zero, List.set_cons_succ])
  refine wpAnyH_ready (rs := [10]) (by kernel_rfl) (by simp) ?_
  refine AllReadyH.cons rfl (fun K hK => ?_) AllReadyH.nil
  go_simp
  refine hK.out _ _ trivial (fun hHeld => ?_)
  clear hK K d1 g1
  (try simp only [Act.put, List.getElem_toArray, List.getElem_cons_succ, List.getElem_cons_zero, List.setIfInBounds_toArray, List.set_cons_zero, List.set_cons_succ])
  refine wpAnyH_done (by kernel_rfl) ?_ _
  clear hHeld
  have HF := hid PW.out.1
  have KF := hid (KR.out.trans PW.out.2)
  clear PW HR KR HB8 HD KD
  generalize w9.setCell ⟨p, 0, none⟩ (.slice va (l.length + BS.length) vc) = wf at *
  go_wp2_with fail
  go_end0
  exact ⟨⟨_, rfl⟩, _, HF.out, KF.out⟩

/-- Whole numbers' bytes. -/
def bytesZ (xs : List Int) : List Int := xs.flatMap (fun x => numB (zig x))
theorem bytesZ_snoc {xs : List Int} {k : Nat} (h : k < xs.length) : bytesZ (xs.take (k + 1)) = bytesZ (xs.take k) ++ numB (zig (xs[k]?.getD 0)) := by
  unfold bytesZ
  rw [List.take_add_one, List.getElem?_eq_getElem h]
  simp only [Option.toList_some, List.flatMap_append, List.flatMap_cons, List.flatMap_nil, List.append_nil, Option.getD_some]
theorem bytesZ_len (xs : List Int) : (bytesZ xs).length ≤ 9 * xs.length := by
  induction xs with
  | nil => simp [bytesZ]
  | cons x r ih =>
    have e : bytesZ (x :: r) = numB (zig x) ++ bytesZ r := rfl
    rw [e, List.length_append, List.length_cons, numB_len]
    have := shelf_le (zig x)
    omega
theorem bytesZ_app (a b : List Int) : bytesZ (a ++ b) = bytesZ a ++ bytesZ b := by unfold bytesZ; rw [List.flatMap_append]

set_option maxRecDepth 100000 in
set_option maxHeartbeats 4000000 in
theorem cints_any (p b o c : Nat) (xs : List Int) (w : World) (v0 : Value) (l0 : List Int) (lg bz : Bool) (h : Wr w p v0 l0 lg bz) (ha : HoldsN w (some ⟨b, o, none⟩) xs.length c xs) (hb1 : b ≠ p) (hb2 : v0.ownBlock ≠ some b) (hx : ∀ x ∈ xs, I64 x) (hm : l0.length + 9 * xs.length ≤ 140737488355328) :
    Calls Try.prog 67 #[.pointer (some ⟨p, 0, none⟩), .slice (some ⟨b, o, none⟩) xs.length c] w fun e w' => (∃ r, e = .returned r) ∧ ∃ v', Wr w' p v' (l0 ++ bytesZ xs) lg bz ∧ WK p v0 w w' v' := by
  have HW0 := hid h
  have HA := hid ha
  have HX := hid hx
  have hcap := ha.2.1
  have hcm := ha.2.2.1
  clear h ha hx
  generalize hn : xs.length = n at *
  have HN := hid hn
  clear hn
  go_enter Try.func67, Try.ntmps67
  go_wp2_with fail
  go_loopw [8] (fun i wr => ∃ k : Nat, k ≤ n ∧ i = .int .i64 (k : Int) ∧ ∃ v', Hid (Wr wr p v' (l0 ++ bytesZ (xs.take k)) lg bz) ∧ Hid (WK p v0 w wr v')) (fun i _ => n - (intOf i).toNat)
  case atStart => exact ⟨0, by omega, rfl, v0, by unfold Hid; simpa [bytesZ] using HW0.out, WK.refl _ _ _⟩
  case round =>
    obtain ⟨k, hk, rfl, v, HW, K0⟩ := hrel
    by_cases hlt : k < n
    · have hlt' : k < xs.length := by rw [HN.out]; exact hlt
      obtain ⟨ab, ao, e, RI⟩ := HA.out.rowN (by omega)
      cases e
      have c0 := K0.out.cell (RI k hlt) hb1 hb2
      have SN := hid (bytesZ_snoc hlt')
      have hbl := bytesZ_len (xs.take k)
      have hxk : I64 (xs[k]?.getD 0) := HX.out _ (by rw [List.getElem?_eq_getElem hlt']; exact List.getElem_mem hlt')
      have ka : (0 : Int) ≤ (k : Int) := by omega
      have kb : (k : Int) < (n : Int) := by omega
      have hl9 : (l0 ++ bytesZ (xs.take k)).length + 9 ≤ 140737488355328 := by
        rw [List.length_append]
        rw [List.length_take] at hbl
        omega
      clear RI hbl
      generalize xs[k]?.getD 0 = x at *
      have LAY := hid (fun W => layint0_any x W hxk)
      have hn9 : (numB (zig x)).length ≤ 9 := by rw [numB_len]; have := shelf_le (zig x); omega
      clear hxk
      generalize hll : l0 ++ bytesZ (xs.take k) = l at *
      have HLL := hid hll
      clear hll
      generalize numB (zig x) = BS at *
      go_upto_region 3 with fail
      clear c0
      have HD := hid (HW.out.below (Below.drew (Below.refl wr.heap.size wr)))
      have KD : Hid (WK p v wr wr.drew v) := WK.of_below (Below.drew (Below.refl _ _))
      refine wp_region_held_drew (S := fun _ => True) (by kernel_rfl) trivial (fun hHeld => ?_)
      refine wpAnyH_take (i := 0) (v := .pointer (some ⟨p, 0, none⟩)) rfl (by kernel_rfl) (by kernel_rfl) (by kernel_rfl) (fun _ _ _ h => h) (Or.inl ⟨by rfl, ?_⟩) (by assumption) ?_
      · (intro w hSw; (try dsimp only at hSw); go_simp)
      (try simp only [Act.put, List.getElem_toArray, List.getElem_cons_succ, List.getElem_cons_zero, List.setIfInBounds_toArray, List.set_cons_zero, List.set_cons_succ])
      refine wpAnyH_take (i := 1) (v := .pointer (some ⟨p, 0, none⟩)) rfl (by kernel_rfl) (by kernel_rfl) (by kernel_rfl) (fun _ _ _ h => h) (Or.inl ⟨by rfl, ?_⟩) (by assumption) ?_
      · (intro w hSw; (try dsimp only at hSw); go_simp)
      (try simp only [Act.put, List.getElem_toArray, List.getElem_cons_succ, List.getElem_cons_zero, List.setIfInBounds_toArray, List.set_cons_zero, List.set_cons_succ])
      refine wpAnyH_take (i := 2) (v := .pointer (some ⟨p, 0, none⟩)) rfl (by kernel_rfl) (by kernel_rfl) (by kernel_rfl) (fun _ _ _ h => h) (Or.inl ⟨by rfl, ?_⟩) (by assumption) ?_
      · (intro w hSw; (try dsimp only at hSw); go_simp)
      (try simp only [Act.put, List.getElem_toArray, List.getElem_cons_succ, List.getElem_cons_zero, List.setIfInBounds_toArray, List.set_cons_zero, List.set_cons_succ])
      refine wpAnyH_take (i := 3) (v := .pointer (some ⟨p, 0, none⟩)) rfl (by kernel_rfl) (by kernel_rfl) (by kernel_rfl) (fun _ _ _ h => h) (Or.inl ⟨by rfl, ?_⟩) (by assumption) ?_
      · (intro w hSw; (try dsimp only at hSw); go_simp)
      (try simp only [Act.put, List.getElem_toArray, List.getElem_cons_succ, List.getElem_cons_zero, List.setIfInBounds_toArray, List.set_cons_zero, List.set_cons_succ])
      refine wpAnyH_take (i := 5) (v := .int .i64 x) rfl (by kernel_rfl) (by kernel_rfl) (by kernel_rfl) (fun _ _ _ h => h) (Or.inl ⟨by rfl, ?_⟩) (by assumption) ?_
      · (intro w hSw; (try dsimp only at hSw); go_simp)
      (try simp only [Act.put, List.getElem_toArray, List.getElem_cons_succ, List.getElem_cons_zero, List.setIfInBounds_toArray, List.set_cons_zero, List.set_cons_succ])
      generalize wr.drew = wd at *
      refine wpAnyH_ready (rs := [4, 6]) (by kernel_rfl) (by simp) ?_
      refine AllReadyH.cons rfl (fun K hK => ?_) ?_
      · skip
        have c0 := HD.out.1.1.1
        go_simp
        refine hK.out _ _ trivial (fun hHeld => ?_)
        clear hK K c0
        (try simp only [Act.put, List.getElem_toArray, List.getElem_cons_succ, List.getElem_cons_zero, List.setIfInBounds_toArray, List.set_cons_zero, List.set_cons_succ])
        refine wpAnyH_ready (rs := [6]) (by kernel_rfl) (by simp) ?_
        refine AllReadyH.cons rfl (fun K hK => ?_) AllReadyH.nil
        go_simp
        with_reducible refine (LAY.out _).mono ?_
        rintro e x1 ⟨g, rfl, o1, b1⟩
        have HR := hid (HD.out.below b1)
        have KR := hid (KD.out.trans (WK.of_below b1))
        have HB8 := hid o1
        clear o1 b1
        refine hK.out _ _ trivial (fun hHeld => ?_)
        clear hK K
        (try simp only [Act.put, List.getElem_toArray, List.getElem_cons_succ, List.getElem_cons_zero, List.setIfInBounds_toArray, List.set_cons_zero, List.set_cons_succ])
        refine wpAnyH_ready (rs := [7]) (by kernel_rfl) (by simp) ?_
        refine AllReadyH.cons rfl (fun K hK => ?_) AllReadyH.nil
        refine appB_step x1 rfl (.tmp 16) (.tmp 18) rfl (p + 1) l.length v l rfl HR.out.2 (by have := HR.out.lt; omega) (some ⟨g, 0, none⟩) BS.length BS.length BS rfl HB8.out (by omega) ?_
        intro v' w9 oo hg hv
        obtain ⟨va, vc, rfl⟩ := oo.form
        have hblk : w9.heap[p]? = x1.heap[p]? := hg.block p HR.out.lt (fun e => by have := HR.out.row p e.symm; omega)
        have d1 : w9.cell? ⟨p, 0, none⟩ = some v := (World.cell?_of_block hblk).trans HR.out.1.1.1
        have g1 : w9.frozen? ⟨p, 0, none⟩ = false := (World.frozen?_of_block hblk).trans HR.out.1.2.1
        have PW := hid (wr_put HR.out hg hv (l' := l ++ BS) (by rw [List.length_append]; exact oo))
        clear hg hv oo hblk
        refine hK.out _ _ trivial (fun hHeld => ?_)
        clear hK K
        (try simp only [Act.put, List.getElem_toArray, List.getElem_cons_succ, List.getElem_cons_zero, List.setIfInBounds_toArray, List.set_cons_zero, List.set_cons_succ])
        refine wpAnyH_take (i := 8) (v := .pointer (some ⟨p, 0, none⟩)) rfl (by kernel_rfl) (by kernel_rfl) (by kernel_rfl) (fun _ _ _ h => h) (Or.inl ⟨by rfl, ?_⟩) (by assumption) ?_
        · (intro w hSw; (try dsimp only at hSw); go_simp)
        (try simp only [Act.put, List.getElem_toArray, List.getElem_cons_succ, List.getElem_cons_zero, List.setIfInBounds_toArray, List.set_cons_zero, List.set_cons_succ])
        refine wpAnyH_take (i := 9) (v := .pointer (some ⟨p, 0, none⟩)) rfl (by kernel_rfl) (by kernel_rfl) (by kernel_rfl) (fun _ _ _ h => h) (Or.inl ⟨by rfl, ?_⟩) (by assumption) ?_
        · (intro w hSw; (try dsimp only at hSw); go_simp)
        (try simp only [Act.put, List.getElem_toArray, List.getElem_cons_succ, List.getElem_cons_zero, List.setIfInBounds_toArray, List.set_cons_zero, List.set_cons_succ])
        refine wpAnyH_ready (rs := [10]) (by kernel_rfl) (by simp) ?_
        refine AllReadyH.cons rfl (fun K hK => ?_) AllReadyH.nil
        go_simp
        refine hK.out _ _ trivial (fun hHeld => ?_)
        clear hK K d1 g1
        (try simp only [Act.put, List.getElem_toArray, List.getElem_cons_succ, List.getElem_cons_zero, List.setIfInBounds_toArray, List.set_cons_zero, List.set_cons_succ])
        refine wpAnyH_done (by kernel_rfl) ?_ _
        clear hHeld
        have HF := hid PW.out.1
        have KF := hid (KR.out.trans PW.out.2)
        clear PW HR KR HB8 HD KD
        generalize w9.setCell ⟨p, 0, none⟩ (.slice va (l.length + BS.length) vc) = wf at *
        have KZ := hid (K0.out.trans KF.out)
        go_wp2_with fail
        refine ⟨⟨k + 1, by omega, by go_num, ⟨_, by rw [SN.out, ← List.append_assoc, HLL.out]; exact HF.out, KZ.out⟩⟩, ?_⟩
        simp [intOf]; omega
      refine AllReadyH.cons rfl (fun K hK => ?_) AllReadyH.nil
      go_simp
      with_reducible refine (LAY.out _).mono ?_
      rintro e x1 ⟨g, rfl, o1, b1⟩
      have HR := hid (HD.out.below b1)
      have KR := hid (KD.out.trans (WK.of_below b1))
      have HB8 := hid o1
      clear o1 b1
      refine hK.out _ _ trivial (fun hHeld => ?_)
      clear hK K
      (try simp only [Act.put, List.getElem_toArray, List.getElem_cons_succ, List.getElem_cons_zero, List.setIfInBounds_toArray, List.set_cons_zero, List.set_cons_succ])
      have c0 := HR.out.1.1.1
      refine wpAnyH_ready (rs := [4]) (by kernel_rfl) (by simp) ?_
      refine AllReadyH.cons rfl (fun K hK => ?_) AllReadyH.nil
      go_simp
      refine hK.out _ _ trivial (fun hHeld => ?_)
      clear hK K c0
      (try simp only [Act.put, List.getElem_toArray, List.getElem_cons_succ, List.getElem_cons_zero, List.setIfInBounds_toArray, List.set_cons_zero, List.set_cons_succ])
      refine wpAnyH_ready (rs := [7]) (by kernel_rfl) (by simp) ?_
      refine AllReadyH.cons rfl (fun K hK => ?_) AllReadyH.nil
      refine appB_step x1 rfl (.tmp 16) (.tmp 18) rfl (p + 1) l.length v l rfl HR.out.2 (by have := HR.out.lt; omega) (some ⟨g, 0, none⟩) BS.length BS.length BS rfl HB8.out (by omega) ?_
      intro v' w9 oo hg hv
      obtain ⟨va, vc, rfl⟩ := oo.form
      have hblk : w9.heap[p]? = x1.heap[p]? := hg.block p HR.out.lt (fun e => by have := HR.out.row p e.symm; omega)
      have d1 : w9.cell? ⟨p, 0, none⟩ = some v := (World.cell?_of_block hblk).trans HR.out.1.1.1
      have g1 : w9.frozen? ⟨p, 0, none⟩ = false := (World.frozen?_of_block hblk).trans HR.out.1.2.1
      have PW := hid (wr_put HR.out hg hv (l' := l ++ BS) (by rw [List.length_append]; exact oo))
      clear hg hv oo hblk
      refine hK.out _ _ trivial (fun hHeld => ?_)
      clear hK K
      (try simp only [Act.put, List.getElem_toArray, List.getElem_cons_succ, List.getElem_cons_zero, List.setIfInBounds_toArray, List.set_cons_zero, List.set_cons_succ])
      refine wpAnyH_take (i := 8) (v := .pointer (some ⟨p, 0, none⟩)) rfl (by kernel_rfl) (by kernel_rfl) (by kernel_rfl) (fun _ _ _ h => h) (Or.inl ⟨by rfl, ?_⟩) (by assumption) ?_
      · (intro w hSw; (try dsimp only at hSw); go_simp)
      (try simp only [Act.put, List.getElem_toArray, List.getElem_cons_succ, List.getElem_cons_zero, List.setIfInBounds_toArray, List.set_cons_zero, List.set_cons_succ])
      refine wpAnyH_take (i := 9) (v := .pointer (some ⟨p, 0, none⟩)) rfl (by kernel_rfl) (by kernel_rfl) (by kernel_rfl) (fun _ _ _ h => h) (Or.inl ⟨by rfl, ?_⟩) (by assumption) ?_
      · (intro w hSw; (try dsimp only at hSw); go_simp)
      (try simp only [Act.put, List.getElem_toArray, List.getElem_cons_succ, List.getElem_cons_zero, List.setIfInBounds_toArray, List.set_cons_zero, List.set_cons_succ])
      refine wpAnyH_ready (rs := [10]) (by kernel_rfl) (by simp) ?_
      refine AllReadyH.cons rfl (fun K hK => ?_) AllReadyH.nil
      go_simp
      refine hK.out _ _ trivial (fun hHeld => ?_)
      clear hK K d1 g1
      (try simp only [Act.put, List.getElem_toArray, List.getElem_cons_succ, List.getElem_cons_zero, List.setIfInBounds_toArray, List.set_cons_zero, List.set_cons_succ])
      refine wpAnyH_done (by kernel_rfl) ?_ _
      clear hHeld
      have HF := hid PW.out.1
      have KF := hid (KR.out.trans PW.out.2)
      clear PW HR KR HB8 HD KD
      generalize w9.setCell ⟨p, 0, none⟩ (.slice va (l.length + BS.length) vc) = wf at *
      have KZ := hid (K0.out.trans KF.out)
      go_wp2_with fail
      refine ⟨⟨k + 1, by omega, by go_num, ⟨_, by rw [SN.out, ← List.append_assoc, HLL.out]; exact HF.out, KZ.out⟩⟩, ?_⟩
      simp [intOf]; omega
    · obtain rfl : n = k := by omega
      have e : xs.take n = xs := List.take_of_length_le (by rw [HN.out]; exact Nat.le_refl _)
      rw [e] at HW
      go_wp2_with fail
      go_end0
      exact ⟨⟨_, rfl⟩, v, HW.out, K0.out⟩

set_option maxRecDepth 100000 in
set_option maxHeartbeats 4000000 in
theorem cints64_any (p b o c : Nat) (xs : List Int) (w : World) (v0 : Value) (l0 : List Int) (lg bz : Bool) (h : Wr w p v0 l0 lg bz) (ha : HoldsN w (some ⟨b, o, none⟩) xs.length c xs) (hb1 : b ≠ p) (hb2 : v0.ownBlock ≠ some b) (hx : ∀ x ∈ xs, I64 x) (hm : l0.length + 9 * xs.length ≤ 140737488355328) :
    Calls Try.prog 66 #[.pointer (some ⟨p, 0, none⟩), .slice (some ⟨b, o, none⟩) xs.length c] w fun e w' => (∃ r, e = .returned r) ∧ ∃ v', Wr w' p v' (l0 ++ bytesZ xs) lg bz ∧ WK p v0 w w' v' := by
  have HW0 := hid h
  have HA := hid ha
  have HX := hid hx
  have hcap := ha.2.1
  have hcm := ha.2.2.1
  clear h ha hx
  generalize hn : xs.length = n at *
  have HN := hid hn
  clear hn
  go_enter Try.func66, Try.ntmps66
  go_wp2_with fail
  go_loopw [8] (fun i wr => ∃ k : Nat, k ≤ n ∧ i = .int .i64 (k : Int) ∧ ∃ v', Hid (Wr wr p v' (l0 ++ bytesZ (xs.take k)) lg bz) ∧ Hid (WK p v0 w wr v')) (fun i _ => n - (intOf i).toNat)
  case atStart => exact ⟨0, by omega, rfl, v0, by unfold Hid; simpa [bytesZ] using HW0.out, WK.refl _ _ _⟩
  case round =>
    obtain ⟨k, hk, rfl, v, HW, K0⟩ := hrel
    by_cases hlt : k < n
    · have hlt' : k < xs.length := by rw [HN.out]; exact hlt
      obtain ⟨ab, ao, e, RI⟩ := HA.out.rowN (by omega)
      cases e
      have c0 := K0.out.cell (RI k hlt) hb1 hb2
      have SN := hid (bytesZ_snoc hlt')
      have hbl := bytesZ_len (xs.take k)
      have hxk : I64 (xs[k]?.getD 0) := HX.out _ (by rw [List.getElem?_eq_getElem hlt']; exact List.getElem_mem hlt')
      have ka : (0 : Int) ≤ (k : Int) := by omega
      have kb : (k : Int) < (n : Int) := by omega
      have hl9 : (l0 ++ bytesZ (xs.take k)).length + 9 ≤ 140737488355328 := by
        rw [List.length_append]
        rw [List.length_take] at hbl
        omega
      clear RI hbl
      generalize xs[k]?.getD 0 = x at *
      have LAY := hid (fun W => layint0_any x W hxk)
      have hn9 : (numB (zig x)).length ≤ 9 := by rw [numB_len]; have := shelf_le (zig x); omega
      clear hxk
      generalize hll : l0 ++ bytesZ (xs.take k) = l at *
      have HLL := hid hll
      clear hll
      generalize numB (zig x) = BS at *
      go_upto_region 3 with fail
      clear c0
      have HD := hid (HW.out.below (Below.drew (Below.refl wr.heap.size wr)))
      have KD : Hid (WK p v wr wr.drew v) := WK.of_below (Below.drew (Below.refl _ _))
      refine wp_region_held_drew (S := fun _ => True) (by kernel_rfl) trivial (fun hHeld => ?_)
      refine wpAnyH_take (i := 0) (v := .pointer (some ⟨p, 0, none⟩)) rfl (by kernel_rfl) (by kernel_rfl) (by kernel_rfl) (fun _ _ _ h => h) (Or.inl ⟨by rfl, ?_⟩) (by assumption) ?_
      · (intro w hSw; (try dsimp only at hSw); go_simp)
      (try simp only [Act.put, List.getElem_toArray, List.getElem_cons_succ, List.getElem_cons_zero, List.setIfInBounds_toArray, List.set_cons_zero, List.set_cons_succ])
      refine wpAnyH_take (i := 1) (v := .pointer (some ⟨p, 0, none⟩)) rfl (by kernel_rfl) (by kernel_rfl) (by kernel_rfl) (fun _ _ _ h => h) (Or.inl ⟨by rfl, ?_⟩) (by assumption) ?_
      · (intro w hSw; (try dsimp only at hSw); go_simp)
      (try simp only [Act.put, List.getElem_toArray, List.getElem_cons_succ, List.getElem_cons_zero, List.setIfInBounds_toArray, List.set_cons_zero, List.set_cons_succ])
      refine wpAnyH_take (i := 2) (v := .pointer (some ⟨p, 0, none⟩)) rfl (by kernel_rfl) (by kernel_rfl) (by kernel_rfl) (fun _ _ _ h => h) (Or.inl ⟨by rfl, ?_⟩) (by assumption) ?_
      · (intro w hSw; (try dsimp only at hSw); go_simp)
      (try simp only [Act.put, List.getElem_toArray, List.getElem_cons_succ, List.getElem_cons_zero, List.setIfInBounds_toArray, List.set_cons_zero, List.set_cons_succ])
      refine wpAnyH_take (i := 3) (v := .pointer (some ⟨p, 0, none⟩)) rfl (by kernel_rfl) (by kernel_rfl) (by kernel_rfl) (fun _ _ _ h => h) (Or.inl ⟨by rfl, ?_⟩) (by assumption) ?_
      · (intro w hSw; (try dsimp only at hSw); go_simp)
      (try simp only [Act.put, List.getElem_toArray, List.getElem_cons_succ, List.getElem_cons_zero, List.setIfInBounds_toArray, List.set_cons_zero, List.set_cons_succ])
      refine wpAnyH_take (i := 5) (v := .int .i64 x) rfl (by kernel_rfl) (by kernel_rfl) (by kernel_rfl) (fun _ _ _ h => h) (Or.inl ⟨by rfl, ?_⟩) (by assumption) ?_
      · (intro w hSw; (try dsimp only at hSw); go_simp)
      (try simp only [Act.put, List.getElem_toArray, List.getElem_cons_succ, List.getElem_cons_zero, List.setIfInBounds_toArray, List.set_cons_zero, List.set_cons_succ])
      generalize wr.drew = wd at *
      refine wpAnyH_ready (rs := [4, 6]) (by kernel_rfl) (by simp) ?_
      refine AllReadyH.cons rfl (fun K hK => ?_) ?_
      · skip
        have c0 := HD.out.1.1.1
        go_simp
        refine hK.out _ _ trivial (fun hHeld => ?_)
        clear hK K c0
        (try simp only [Act.put, List.getElem_toArray, List.getElem_cons_succ, List.getElem_cons_zero, List.setIfInBounds_toArray, List.set_cons_zero, List.set_cons_succ])
        refine wpAnyH_ready (rs := [6]) (by kernel_rfl) (by simp) ?_
        refine AllReadyH.cons rfl (fun K hK => ?_) AllReadyH.nil
        go_simp
        with_reducible refine (LAY.out _).mono ?_
        rintro e x1 ⟨g, rfl, o1, b1⟩
        have HR := hid (HD.out.below b1)
        have KR := hid (KD.out.trans (WK.of_below b1))
        have HB8 := hid o1
        clear o1 b1
        refine hK.out _ _ trivial (fun hHeld => ?_)
        clear hK K
        (try simp only [Act.put, List.getElem_toArray, List.getElem_cons_succ, List.getElem_cons_zero, List.setIfInBounds_toArray, List.set_cons_zero, List.set_cons_succ])
        refine wpAnyH_ready (rs := [7]) (by kernel_rfl) (by simp) ?_
        refine AllReadyH.cons rfl (fun K hK => ?_) AllReadyH.nil
        refine appB_step x1 rfl (.tmp 16) (.tmp 18) rfl (p + 1) l.length v l rfl HR.out.2 (by have := HR.out.lt; omega) (some ⟨g, 0, none⟩) BS.length BS.length BS rfl HB8.out (by omega) ?_
        intro v' w9 oo hg hv
        obtain ⟨va, vc, rfl⟩ := oo.form
        have hblk : w9.heap[p]? = x1.heap[p]? := hg.block p HR.out.lt (fun e => by have := HR.out.row p e.symm; omega)
        have d1 : w9.cell? ⟨p, 0, none⟩ = some v := (World.cell?_of_block hblk).trans HR.out.1.1.1
        have g1 : w9.frozen? ⟨p, 0, none⟩ = false := (World.frozen?_of_block hblk).trans HR.out.1.2.1
        have PW := hid (wr_put HR.out hg hv (l' := l ++ BS) (by rw [List.length_append]; exact oo))
        clear hg hv oo hblk
        refine hK.out _ _ trivial (fun hHeld => ?_)
        clear hK K
        (try simp only [Act.put, List.getElem_toArray, List.getElem_cons_succ, List.getElem_cons_zero, List.setIfInBounds_toArray, List.set_cons_zero, List.set_cons_succ])
        refine wpAnyH_take (i := 8) (v := .pointer (some ⟨p, 0, none⟩)) rfl (by kernel_rfl) (by kernel_rfl) (by kernel_rfl) (fun _ _ _ h => h) (Or.inl ⟨by rfl, ?_⟩) (by assumption) ?_
        · (intro w hSw; (try dsimp only at hSw); go_simp)
        (try simp only [Act.put, List.getElem_toArray, List.getElem_cons_succ, List.getElem_cons_zero, List.setIfInBounds_toArray, List.set_cons_zero, List.set_cons_succ])
        refine wpAnyH_take (i := 9) (v := .pointer (some ⟨p, 0, none⟩)) rfl (by kernel_rfl) (by kernel_rfl) (by kernel_rfl) (fun _ _ _ h => h) (Or.inl ⟨by rfl, ?_⟩) (by assumption) ?_
        · (intro w hSw; (try dsimp only at hSw); go_simp)
        (try simp only [Act.put, List.getElem_toArray, List.getElem_cons_succ, List.getElem_cons_zero, List.setIfInBounds_toArray, List.set_cons_zero, List.set_cons_succ])
        refine wpAnyH_ready (rs := [10]) (by kernel_rfl) (by simp) ?_
        refine AllReadyH.cons rfl (fun K hK => ?_) AllReadyH.nil
        go_simp
        refine hK.out _ _ trivial (fun hHeld => ?_)
        clear hK K d1 g1
        (try simp only [Act.put, List.getElem_toArray, List.getElem_cons_succ, List.getElem_cons_zero, List.setIfInBounds_toArray, List.set_cons_zero, List.set_cons_succ])
        refine wpAnyH_done (by kernel_rfl) ?_ _
        clear hHeld
        have HF := hid PW.out.1
        have KF := hid (KR.out.trans PW.out.2)
        clear PW HR KR HB8 HD KD
        generalize w9.setCell ⟨p, 0, none⟩ (.slice va (l.length + BS.length) vc) = wf at *
        have KZ := hid (K0.out.trans KF.out)
        go_wp2_with fail
        refine ⟨⟨k + 1, by omega, by go_num, ⟨_, by rw [SN.out, ← List.append_assoc, HLL.out]; exact HF.out, KZ.out⟩⟩, ?_⟩
        simp [intOf]; omega
      refine AllReadyH.cons rfl (fun K hK => ?_) AllReadyH.nil
      go_simp
      with_reducible refine (LAY.out _).mono ?_
      rintro e x1 ⟨g, rfl, o1, b1⟩
      have HR := hid (HD.out.below b1)
      have KR := hid (KD.out.trans (WK.of_below b1))
      have HB8 := hid o1
      clear o1 b1
      refine hK.out _ _ trivial (fun hHeld => ?_)
      clear hK K
      (try simp only [Act.put, List.getElem_toArray, List.getElem_cons_succ, List.getElem_cons_zero, List.setIfInBounds_toArray, List.set_cons_zero, List.set_cons_succ])
      have c0 := HR.out.1.1.1
      refine wpAnyH_ready (rs := [4]) (by kernel_rfl) (by simp) ?_
      refine AllReadyH.cons rfl (fun K hK => ?_) AllReadyH.nil
      go_simp
      refine hK.out _ _ trivial (fun hHeld => ?_)
      clear hK K c0
      (try simp only [Act.put, List.getElem_toArray, List.getElem_cons_succ, List.getElem_cons_zero, List.setIfInBounds_toArray, List.set_cons_zero, List.set_cons_succ])
      refine wpAnyH_ready (rs := [7]) (by kernel_rfl) (by simp) ?_
      refine AllReadyH.cons rfl (fun K hK => ?_) AllReadyH.nil
      refine appB_step x1 rfl (.tmp 16) (.tmp 18) rfl (p + 1) l.length v l rfl HR.out.2 (by have := HR.out.lt; omega) (some ⟨g, 0, none⟩) BS.length BS.length BS rfl HB8.out (by omega) ?_
      intro v' w9 oo hg hv
      obtain ⟨va, vc, rfl⟩ := oo.form
      have hblk : w9.heap[p]? = x1.heap[p]? := hg.block p HR.out.lt (fun e => by have := HR.out.row p e.symm; omega)
      have d1 : w9.cell? ⟨p, 0, none⟩ = some v := (World.cell?_of_block hblk).trans HR.out.1.1.1
      have g1 : w9.frozen? ⟨p, 0, none⟩ = false := (World.frozen?_of_block hblk).trans HR.out.1.2.1
      have PW := hid (wr_put HR.out hg hv (l' := l ++ BS) (by rw [List.length_append]; exact oo))
      clear hg hv oo hblk
      refine hK.out _ _ trivial (fun hHeld => ?_)
      clear hK K
      (try simp only [Act.put, List.getElem_toArray, List.getElem_cons_succ, List.getElem_cons_zero, List.setIfInBounds_toArray, List.set_cons_zero, List.set_cons_succ])
      refine wpAnyH_take (i := 8) (v := .pointer (some ⟨p, 0, none⟩)) rfl (by kernel_rfl) (by kernel_rfl) (by kernel_rfl) (fun _ _ _ h => h) (Or.inl ⟨by rfl, ?_⟩) (by assumption) ?_
      · (intro w hSw; (try dsimp only at hSw); go_simp)
      (try simp only [Act.put, List.getElem_toArray, List.getElem_cons_succ, List.getElem_cons_zero, List.setIfInBounds_toArray, List.set_cons_zero, List.set_cons_succ])
      refine wpAnyH_take (i := 9) (v := .pointer (some ⟨p, 0, none⟩)) rfl (by kernel_rfl) (by kernel_rfl) (by kernel_rfl) (fun _ _ _ h => h) (Or.inl ⟨by rfl, ?_⟩) (by assumption) ?_
      · (intro w hSw; (try dsimp only at hSw); go_simp)
      (try simp only [Act.put, List.getElem_toArray, List.getElem_cons_succ, List.getElem_cons_zero, List.setIfInBounds_toArray, List.set_cons_zero, List.set_cons_succ])
      refine wpAnyH_ready (rs := [10]) (by kernel_rfl) (by simp) ?_
      refine AllReadyH.cons rfl (fun K hK => ?_) AllReadyH.nil
      go_simp
      refine hK.out _ _ trivial (fun hHeld => ?_)
      clear hK K d1 g1
      (try simp only [Act.put, List.getElem_toArray, List.getElem_cons_succ, List.getElem_cons_zero, List.setIfInBounds_toArray, List.set_cons_zero, List.set_cons_succ])
      refine wpAnyH_done (by kernel_rfl) ?_ _
      clear hHeld
      have HF := hid PW.out.1
      have KF := hid (KR.out.trans PW.out.2)
      clear PW HR KR HB8 HD KD
      generalize w9.setCell ⟨p, 0, none⟩ (.slice va (l.length + BS.length) vc) = wf at *
      have KZ := hid (K0.out.trans KF.out)
      go_wp2_with fail
      refine ⟨⟨k + 1, by omega, by go_num, ⟨_, by rw [SN.out, ← List.append_assoc, HLL.out]; exact HF.out, KZ.out⟩⟩, ?_⟩
      simp [intOf]; omega
    · obtain rfl : n = k := by omega
      have e : xs.take n = xs := List.take_of_length_le (by rw [HN.out]; exact Nat.le_refl _)
      rw [e] at HW
      go_wp2_with fail
      go_end0
      exact ⟨⟨_, rfl⟩, v, HW.out, K0.out⟩

set_option maxRecDepth 100000 in
set_option maxHeartbeats 4000000 in
theorem cerrs_any (p b o c : Nat) (xs : List Int) (w : World) (v0 : Value) (l0 : List Int) (lg bz : Bool) (h : Wr w p v0 l0 lg bz) (ha : HoldsN w (some ⟨b, o, none⟩) xs.length c xs) (hb1 : b ≠ p) (hb2 : v0.ownBlock ≠ some b) (hx : ∀ x ∈ xs, I64 x) (hm : l0.length + 9 * xs.length ≤ 140737488355328) :
    Calls Try.prog 70 #[.pointer (some ⟨p, 0, none⟩), .slice (some ⟨b, o, none⟩) xs.length c] w fun e w' => (∃ r, e = .returned r) ∧ ∃ v', Wr w' p v' (l0 ++ bytesZ xs) lg bz ∧ WK p v0 w w' v' := by
  have HW0 := hid h
  have HA := hid ha
  have HX := hid hx
  have hcap := ha.2.1
  have hcm := ha.2.2.1
  clear h ha hx
  generalize hn : xs.length = n at *
  have HN := hid hn
  clear hn
  go_enter Try.func70, Try.ntmps70
  go_wp2_with fail
  go_loopw [8] (fun i wr => ∃ k : Nat, k ≤ n ∧ i = .int .i64 (k : Int) ∧ ∃ v', Hid (Wr wr p v' (l0 ++ bytesZ (xs.take k)) lg bz) ∧ Hid (WK p v0 w wr v')) (fun i _ => n - (intOf i).toNat)
  case atStart => exact ⟨0, by omega, rfl, v0, by unfold Hid; simpa [bytesZ] using HW0.out, WK.refl _ _ _⟩
  case round =>
    obtain ⟨k, hk, rfl, v, HW, K0⟩ := hrel
    by_cases hlt : k < n
    · have hlt' : k < xs.length := by rw [HN.out]; exact hlt
      obtain ⟨ab, ao, e, RI⟩ := HA.out.rowN (by omega)
      cases e
      have c0 := K0.out.cell (RI k hlt) hb1 hb2
      have SN := hid (bytesZ_snoc hlt')
      have hbl := bytesZ_len (xs.take k)
      have hxk : I64 (xs[k]?.getD 0) := HX.out _ (by rw [List.getElem?_eq_getElem hlt']; exact List.getElem_mem hlt')
      have ka : (0 : Int) ≤ (k : Int) := by omega
      have kb : (k : Int) < (n : Int) := by omega
      have hl9 : (l0 ++ bytesZ (xs.take k)).length + 9 ≤ 140737488355328 := by
        rw [List.length_append]
        rw [List.length_take] at hbl
        omega
      clear RI hbl
      generalize xs[k]?.getD 0 = x at *
      have LAY := hid (fun W => layint0_any x W hxk)
      have hn9 : (numB (zig x)).length ≤ 9 := by rw [numB_len]; have := shelf_le (zig x); omega
      clear hxk
      generalize hll : l0 ++ bytesZ (xs.take k) = l at *
      have HLL := hid hll
      clear hll
      generalize numB (zig x) = BS at *
      go_upto_region 3 with fail
      clear c0
      have HD := hid (HW.out.below (Below.drew (Below.refl wr.heap.size wr)))
      have KD : Hid (WK p v wr wr.drew v) := WK.of_below (Below.drew (Below.refl _ _))
      refine wp_region_held_drew (S := fun _ => True) (by kernel_rfl) trivial (fun hHeld => ?_)
      refine wpAnyH_take (i := 0) (v := .pointer (some ⟨p, 0, none⟩)) rfl (by kernel_rfl) (by kernel_rfl) (by kernel_rfl) (fun _ _ _ h => h) (Or.inl ⟨by rfl, ?_⟩) (by assumption) ?_
      · (intro w hSw; (try dsimp only at hSw); go_simp)
      (try simp only [Act.put, List.getElem_toArray, List.getElem_cons_succ, List.getElem_cons_zero, List.setIfInBounds_toArray, List.set_cons_zero, List.set_cons_succ])
      refine wpAnyH_take (i := 1) (v := .pointer (some ⟨p, 0, none⟩)) rfl (by kernel_rfl) (by kernel_rfl) (by kernel_rfl) (fun _ _ _ h => h) (Or.inl ⟨by rfl, ?_⟩) (by assumption) ?_
      · (intro w hSw; (try dsimp only at hSw); go_simp)
      (try simp only [Act.put, List.getElem_toArray, List.getElem_cons_succ, List.getElem_cons_zero, List.setIfInBounds_toArray, List.set_cons_zero, List.set_cons_succ])
      refine wpAnyH_take (i := 2) (v := .pointer (some ⟨p, 0, none⟩)) rfl (by kernel_rfl) (by kernel_rfl) (by kernel_rfl) (fun _ _ _ h => h) (Or.inl ⟨by rfl, ?_⟩) (by assumption) ?_
      · (intro w hSw; (try dsimp only at hSw); go_simp)
      (try simp only [Act.put, List.getElem_toArray, List.getElem_cons_succ, List.getElem_cons_zero, List.setIfInBounds_toArray, List.set_cons_zero, List.set_cons_succ])
      refine wpAnyH_take (i := 3) (v := .pointer (some ⟨p, 0, none⟩)) rfl (by kernel_rfl) (by kernel_rfl) (by kernel_rfl) (fun _ _ _ h => h) (Or.inl ⟨by rfl, ?_⟩) (by assumption) ?_
      · (intro w hSw; (try dsimp only at hSw); go_simp)
      (try simp only [Act.put, List.getElem_toArray, List.getElem_cons_succ, List.getElem_cons_zero, List.setIfInBounds_toArray, List.set_cons_zero, List.set_cons_succ])
      refine wpAnyH_take (i := 5) (v := .int .i64 x) rfl (by kernel_rfl) (by kernel_rfl) (by kernel_rfl) (fun _ _ _ h => h) (Or.inl ⟨by rfl, ?_⟩) (by assumption) ?_
      · (intro w hSw; (try dsimp only at hSw); go_simp)
      (try simp only [Act.put, List.getElem_toArray, List.getElem_cons_succ, List.getElem_cons_zero, List.setIfInBounds_toArray, List.set_cons_zero, List.set_cons_succ])
      generalize wr.drew = wd at *
      refine wpAnyH_ready (rs := [4, 6]) (by kernel_rfl) (by simp) ?_
      refine AllReadyH.cons rfl (fun K hK => ?_) ?_
      · skip
        have c0 := HD.out.1.1.1
        go_simp
        refine hK.out _ _ trivial (fun hHeld => ?_)
        clear hK K c0
        (try simp only [Act.put, List.getElem_toArray, List.getElem_cons_succ, List.getElem_cons_zero, List.setIfInBounds_toArray, List.set_cons_zero, List.set_cons_succ])
        refine wpAnyH_ready (rs := [6]) (by kernel_rfl) (by simp) ?_
        refine AllReadyH.cons rfl (fun K hK => ?_) AllReadyH.nil
        go_simp
        with_reducible refine (LAY.out _).mono ?_
        rintro e x1 ⟨g, rfl, o1, b1⟩
        have HR := hid (HD.out.below b1)
        have KR := hid (KD.out.trans (WK.of_below b1))
        have HB8 := hid o1
        clear o1 b1
        refine hK.out _ _ trivial (fun hHeld => ?_)
        clear hK K
        (try simp only [Act.put, List.getElem_toArray, List.getElem_cons_succ, List.getElem_cons_zero, List.setIfInBounds_toArray, List.set_cons_zero, List.set_cons_succ])
        refine wpAnyH_ready (rs := [7]) (by kernel_rfl) (by simp) ?_
        refine AllReadyH.cons rfl (fun K hK => ?_) AllReadyH.nil
        refine appB_step x1 rfl (.tmp 16) (.tmp 18) rfl (p + 1) l.length v l rfl HR.out.2 (by have := HR.out.lt; omega) (some ⟨g, 0, none⟩) BS.length BS.length BS rfl HB8.out (by omega) ?_
        intro v' w9 oo hg hv
        obtain ⟨va, vc, rfl⟩ := oo.form
        have hblk : w9.heap[p]? = x1.heap[p]? := hg.block p HR.out.lt (fun e => by have := HR.out.row p e.symm; omega)
        have d1 : w9.cell? ⟨p, 0, none⟩ = some v := (World.cell?_of_block hblk).trans HR.out.1.1.1
        have g1 : w9.frozen? ⟨p, 0, none⟩ = false := (World.frozen?_of_block hblk).trans HR.out.1.2.1
        have PW := hid (wr_put HR.out hg hv (l' := l ++ BS) (by rw [List.length_append]; exact oo))
        clear hg hv oo hblk
        refine hK.out _ _ trivial (fun hHeld => ?_)
        clear hK K
        (try simp only [Act.put, List.getElem_toArray, List.getElem_cons_succ, List.getElem_cons_zero, List.setIfInBounds_toArray, List.set_cons_zero, List.set_cons_succ])
        refine wpAnyH_take (i := 8) (v := .pointer (some ⟨p, 0, none⟩)) rfl (by kernel_rfl) (by kernel_rfl) (by kernel_rfl) (fun _ _ _ h => h) (Or.inl ⟨by rfl, ?_⟩) (by assumption) ?_
        · (intro w hSw; (try dsimp only at hSw); go_simp)
        (try simp only [Act.put, List.getElem_toArray, List.getElem_cons_succ, List.getElem_cons_zero, List.setIfInBounds_toArray, List.set_cons_zero, List.set_cons_succ])
        refine wpAnyH_take (i := 9) (v := .pointer (some ⟨p, 0, none⟩)) rfl (by kernel_rfl) (by kernel_rfl) (by kernel_rfl) (fun _ _ _ h => h) (Or.inl ⟨by rfl, ?_⟩) (by assumption) ?_
        · (intro w hSw; (try dsimp only at hSw); go_simp)
        (try simp only [Act.put, List.getElem_toArray, List.getElem_cons_succ, List.getElem_cons_zero, List.setIfInBounds_toArray, List.set_cons_zero, List.set_cons_succ])
        refine wpAnyH_ready (rs := [10]) (by kernel_rfl) (by simp) ?_
        refine AllReadyH.cons rfl (fun K hK => ?_) AllReadyH.nil
        go_simp
        refine hK.out _ _ trivial (fun hHeld => ?_)
        clear hK K d1 g1
        (try simp only [Act.put, List.getElem_toArray, List.getElem_cons_succ, List.getElem_cons_zero, List.setIfInBounds_toArray, List.set_cons_zero, List.set_cons_succ])
        refine wpAnyH_done (by kernel_rfl) ?_ _
        clear hHeld
        have HF := hid PW.out.1
        have KF := hid (KR.out.trans PW.out.2)
        clear PW HR KR HB8 HD KD
        generalize w9.setCell ⟨p, 0, none⟩ (.slice va (l.length + BS.length) vc) = wf at *
        have KZ := hid (K0.out.trans KF.out)
        go_wp2_with fail
        refine ⟨⟨k + 1, by omega, by go_num, ⟨_, by rw [SN.out, ← List.append_assoc, HLL.out]; exact HF.out, KZ.out⟩⟩, ?_⟩
        simp [intOf]; omega
      refine AllReadyH.cons rfl (fun K hK => ?_) AllReadyH.nil
      go_simp
      with_reducible refine (LAY.out _).mono ?_
      rintro e x1 ⟨g, rfl, o1, b1⟩
      have HR := hid (HD.out.below b1)
      have KR := hid (KD.out.trans (WK.of_below b1))
      have HB8 := hid o1
      clear o1 b1
      refine hK.out _ _ trivial (fun hHeld => ?_)
      clear hK K
      (try simp only [Act.put, List.getElem_toArray, List.getElem_cons_succ, List.getElem_cons_zero, List.setIfInBounds_toArray, List.set_cons_zero, List.set_cons_succ])
      have c0 := HR.out.1.1.1
      refine wpAnyH_ready (rs := [4]) (by kernel_rfl) (by simp) ?_
      refine AllReadyH.cons rfl (fun K hK => ?_) AllReadyH.nil
      go_simp
      refine hK.out _ _ trivial (fun hHeld => ?_)
      clear hK K c0
      (try simp only [Act.put, List.getElem_toArray, List.getElem_cons_succ, List.getElem_cons_zero, List.setIfInBounds_toArray, List.set_cons_zero, List.set_cons_succ])
      refine wpAnyH_ready (rs := [7]) (by kernel_rfl) (by simp) ?_
      refine AllReadyH.cons rfl (fun K hK => ?_) AllReadyH.nil
      refine appB_step x1 rfl (.tmp 16) (.tmp 18) rfl (p + 1) l.length v l rfl HR.out.2 (by have := HR.out.lt; omega) (some ⟨g, 0, none⟩) BS.length BS.length BS rfl HB8.out (by omega) ?_
      intro v' w9 oo hg hv
      obtain ⟨va, vc, rfl⟩ := oo.form
      have hblk : w9.heap[p]? = x1.heap[p]? := hg.block p HR.out.lt (fun e => by have := HR.out.row p e.symm; omega)
      have d1 : w9.cell? ⟨p, 0, none⟩ = some v := (World.cell?_of_block hblk).trans HR.out.1.1.1
      have g1 : w9.frozen? ⟨p, 0, none⟩ = false := (World.frozen?_of_block hblk).trans HR.out.1.2.1
      have PW := hid (wr_put HR.out hg hv (l' := l ++ BS) (by rw [List.length_append]; exact oo))
      clear hg hv oo hblk
      refine hK.out _ _ trivial (fun hHeld => ?_)
      clear hK K
      (try simp only [Act.put, List.getElem_toArray, List.getElem_cons_succ, List.getElem_cons_zero, List.setIfInBounds_toArray, List.set_cons_zero, List.set_cons_succ])
      refine wpAnyH_take (i := 8) (v := .pointer (some ⟨p, 0, none⟩)) rfl (by kernel_rfl) (by kernel_rfl) (by kernel_rfl) (fun _ _ _ h => h) (Or.inl ⟨by rfl, ?_⟩) (by assumption) ?_
      · (intro w hSw; (try dsimp only at hSw); go_simp)
      (try simp only [Act.put, List.getElem_toArray, List.getElem_cons_succ, List.getElem_cons_zero, List.setIfInBounds_toArray, List.set_cons_zero, List.set_cons_succ])
      refine wpAnyH_take (i := 9) (v := .pointer (some ⟨p, 0, none⟩)) rfl (by kernel_rfl) (by kernel_rfl) (by kernel_rfl) (fun _ _ _ h => h) (Or.inl ⟨by rfl, ?_⟩) (by assumption) ?_
      · (intro w hSw; (try dsimp only at hSw); go_simp)
      (try simp only [Act.put, List.getElem_toArray, List.getElem_cons_succ, List.getElem_cons_zero, List.setIfInBounds_toArray, List.set_cons_zero, List.set_cons_succ])
      refine wpAnyH_ready (rs := [10]) (by kernel_rfl) (by simp) ?_
      refine AllReadyH.cons rfl (fun K hK => ?_) AllReadyH.nil
      go_simp
      refine hK.out _ _ trivial (fun hHeld => ?_)
      clear hK K d1 g1
      (try simp only [Act.put, List.getElem_toArray, List.getElem_cons_succ, List.getElem_cons_zero, List.setIfInBounds_toArray, List.set_cons_zero, List.set_cons_succ])
      refine wpAnyH_done (by kernel_rfl) ?_ _
      clear hHeld
      have HF := hid PW.out.1
      have KF := hid (KR.out.trans PW.out.2)
      clear PW HR KR HB8 HD KD
      generalize w9.setCell ⟨p, 0, none⟩ (.slice va (l.length + BS.length) vc) = wf at *
      have KZ := hid (K0.out.trans KF.out)
      go_wp2_with fail
      refine ⟨⟨k + 1, by omega, by go_num, ⟨_, by rw [SN.out, ← List.append_assoc, HLL.out]; exact HF.out, KZ.out⟩⟩, ?_⟩
      simp [intOf]; omega
    · obtain rfl : n = k := by omega
      have e : xs.take n = xs := List.take_of_length_le (by rw [HN.out]; exact Nat.le_refl _)
      rw [e] at HW
      go_wp2_with fail
      go_end0
      exact ⟨⟨_, rfl⟩, v, HW.out, K0.out⟩
end Go.Proofs.Ytkjglpgjflkmbaa
