/-
  The document's answers of place: form, Check.
-/
import Derived.Test.YtikalkigmnipiaaPN
namespace Go.Proofs.Ytikalkigmnipiaa
open Go.RowKit Go.Deep Go.Maps Go.Shelf
set_option linter.unusedVariables false
set_option linter.unusedSimpArgs false

/-- The Id ahead of a place. -/
def pv (ns : List Nd) (k : Nat) : Int := if k = 0 then -1 else (da ns (k - 1)).id
theorem pv_succ (ns : List Nd) (k : Nat) : pv ns (k + 1) = (da ns k).id := by unfold pv; rw [if_neg (by omega)]; rfl
theorem ndB_iff {x : Int} {n : Nd} : ndB x n = true ↔ x < n.id ∧ 1 ≤ n.co ∧ n.co ≤ 64 ∧ okp n.me := by
  unfold ndB chk
  simp only [Bool.and_eq_true, Bool.not_eq_true', decide_eq_false_iff_not, decide_eq_true_eq]
  unfold okp
  constructor
  · rintro ⟨⟨⟨h1, h2⟩, h3⟩, h4⟩
    split at h4
    · rename_i h5; exact ⟨by omega, by omega, by omega, h5.2⟩
    · omega
  · rintro ⟨h1, h2, h3, h4⟩
    rw [if_pos ⟨by omega, h4⟩]
    exact ⟨⟨⟨by omega, by omega⟩, by omega⟩, rfl⟩
theorem ndB_yes {x a b c d e : Int} (h : x < a ∧ 1 ≤ b ∧ b ≤ 64 ∧ okp c) : ndB x ⟨a, b, c, d, e⟩ = true := ndB_iff.2 h
theorem ndB_no {x a b c d e : Int} (h : ¬ (x < a ∧ 1 ≤ b ∧ b ≤ 64 ∧ okp c)) : ndB x ⟨a, b, c, d, e⟩ = false := by
  cases hb : ndB x ⟨a, b, c, d, e⟩
  · rfl
  · exact absurd (ndB_iff.1 hb) h
theorem usedM_take {ns : List Nd} {a : Int} (hn : ndsB a ns = true) {n : Nd} (hm : n ∈ ns) {pre : List Lz} (hp : lesB ns [] pre = true) (j : Nat) : 0 ≤ usedM n.id (pre.take j) ∧ usedM n.id (pre.take j) ≤ n.me := by
  have h1 : lesB ns [] (pre.take j) = true := by
    have h := hp
    rw [← List.take_append_drop j pre, lesB_append, Bool.and_eq_true] at h
    exact h.1
  have := Inv.of hn hm _ (pre.take j) rfl h1
  exact ⟨this.me0, this.me1⟩
theorem co_le {n : Int} {l : List Int} (h : coB n l = true) (hn : n ≤ 64) (h0 : 0 ≤ n) : l.length ≤ 64 := by
  unfold coB at h
  rw [Bool.and_eq_true, List.all_eq_true] at h
  have := free_count (n := n.toNat) (rise_nodup h.2) (fun c hc => by have := h.1 c hc; simp at this; omega)
  omega
theorem mem_taken {id : Int} {ls : List Lz} {y : Lz} (hy : y ∈ ls) (hn : y.no = id) {c : Int} (hc : c ∈ y.co) : c ∈ taken id ls := by
  induction ls with
  | nil => cases hy
  | cons z r ih =>
    unfold taken
    rcases List.mem_cons.1 hy with rfl | hy
    · rw [if_pos hn]; exact List.mem_append.2 (.inl hc)
    · exact List.mem_append.2 (.inr (ih hy))
theorem take_lz {l : List Le} {k j : Nat} (hj : j < k) (hk : k ≤ l.length) : ((l.map Le.z).take k).take (j + 1) = ((l.map Le.z).take k).take j ++ [(la l j).z] := by
  rw [List.take_take, List.take_take, show min (j + 1) k = j + 1 by omega, show min j k = j by omega, take_la (by omega)]
theorem all_apart {co t : List Int} (h : ∀ c ∈ t, hasN co c = false) : (co.all fun c => !(hasN t c)) = true := by
  rw [List.all_eq_true]
  intro c hc
  cases e : hasN t c
  · rfl
  · have := h c (hasN_iff.1 e)
    rw [hasN_iff.2 hc] at this
    cases this
theorem all_meets {co t : List Int} {c : Int} (h1 : c ∈ t) (h2 : hasN co c = true) : (co.all fun c => !(hasN t c)) = false := by
  refine List.all_eq_false.2 ⟨c, hasN_iff.1 h2, ?_⟩
  rw [hasN_iff.2 h1]; simp

set_option maxRecDepth 100000 in
set_option maxHeartbeats 16000000 in
theorem rform_any (a : Option Addr) (len cap : Nat) (ns : List Nd) (qa : Option Addr) (ql qc : Nat) (l : List Le) (w : World) (h : HoldsD w a len cap ns) (hl : HoldsL w qa ql qc l) (hlen : len ≤ 64) :
    Calls Try.prog 62 #[.slice a len cap, .slice qa ql qc] w fun e w' => e = .returned (.bool (formP ns (l.map Le.z))) ∧ Below w.heap.size w w' := by
  have HH := hid h
  have HL := hid h.1
  have hcap := h.2.1
  have HQ := hid hl
  have HQL := hid hl.1.1
  have qcap := hl.1.2.1
  have qcm := hl.1.2.2.1
  clear h hl
  go_enter Try.func62, Try.ntmps62
  go_wp2_with fail
  go_loopw [18] (fun i wr => ∃ k : Nat, k ≤ len ∧ i = .int .i64 (k : Int) ∧ Hid (ndsB (-1) ns = ndsB (pv ns k) (ns.drop k)) ∧ Hid (-1 ≤ pv ns k) ∧ Hid (Below w.heap.size w wr)) (fun i _ => len - (intOf i).toNat)
  case atStart => exact ⟨0, by omega, rfl, rfl, by unfold Hid pv; simp, Below.refl _ _⟩
  case round =>
    obtain ⟨k, hk, rfl, hgo, hpv, hB⟩ := hrel
    by_cases hlt : k < len
    · have hk' : k < ns.length := by rw [HL.out]; exact hlt
      obtain ⟨db, dof, rfl, R⟩ := HH.out.rowD (by omega)
      obtain ⟨d1, d2, d3, d4, d5⟩ := R k hlt
      have c1 := keepc hB.out d1
      have c2 := keepc hB.out d2
      have c3 := keepc hB.out d3
      have c4 := keepc hB.out d4
      have c5 := keepc hB.out d5
      have ka : (0 : Int) ≤ (k : Int) := by omega
      have kb : (k : Int) < (len : Int) := by omega
      have NX : Hid (ndsB (-1) ns = (ndB (pv ns k) (da ns k) && ndsB (da ns k).id (ns.drop (k + 1)))) := by unfold Hid; rw [hgo.out, drop_da hk']; rfl
      have PV := hid (pv_succ ns k)
      clear d1 d2 d3 d4 d5 hgo
      rcases Nat.eq_zero_or_pos k with rfl | hp
      · have p0 : pv ns 0 = -1 := rfl
        rw [p0] at NX
        simp only [Nat.zero_mul, Nat.add_zero] at c1 c2 c3 c4 c5
        clear R hpv p0
        generalize da ns 0 = nd at *
        obtain ⟨x1, x2, x3, x4, x5⟩ := nd
        simp only at *
        have BA : Hid (Below w.heap.size w (wr.alloc (.cells #[.int .i64 x1, .int .i64 x2, .int .i64 x3, .int .i64 x4, .int .i64 x5] 41))) := hB.out.alloc hB.out.size _
        have HB := hid (fun n => below_drewN BA.out n)
        by_cases g0 : x1 < 0
        · have NO : Hid (formP ns (l.map Le.z) = false) := by
            unfold Hid formP; rw [NX.out, ndB_no (by unfold okp; omega)]; rfl
          have t0 : decide (x1 < 0) = true := by simpa using g0
          clear NX g0
          go_wp2_with fail
          go_quiet (fail)
          go_wp2
          go_ret
          exact ⟨retb NO.out.symm, HB.out _⟩
        by_cases g1 : x2 < 1
        · have NO : Hid (formP ns (l.map Le.z) = false) := by
            unfold Hid formP; rw [NX.out, ndB_no (by unfold okp; omega)]; rfl
          have t0 : decide (x1 < 0) = false := by simpa using g0
          have t1 : decide (x2 < 1) = true := by simpa using g1
          clear NX g0 g1
          go_wp2_with fail
          go_quiet (fail)
          go_wp2
          go_ret
          exact ⟨retb NO.out.symm, HB.out _⟩
        by_cases g2 : 64 < x2
        · have NO : Hid (formP ns (l.map Le.z) = false) := by
            unfold Hid formP; rw [NX.out, ndB_no (by unfold okp; omega)]; rfl
          have t0 : decide (x1 < 0) = false := by simpa using g0
          have t1 : decide (x2 < 1) = false := by simpa using g1
          have t2 : decide (64 < x2) = true := by simpa using g2
          clear NX g0 g1 g2
          go_wp2_with fail
          go_quiet (fail)
          go_wp2
          go_ret
          exact ⟨retb NO.out.symm, HB.out _⟩
        by_cases g3 : x3 < 0
        · have NO : Hid (formP ns (l.map Le.z) = false) := by
            unfold Hid formP; rw [NX.out, ndB_no (by unfold okp; omega)]; rfl
          have t0 : decide (x1 < 0) = false := by simpa using g0
          have t1 : decide (x2 < 1) = false := by simpa using g1
          have t2 : decide (64 < x2) = false := by simpa using g2
          have t3 : decide (x3 < 0) = true := by simpa using g3
          clear NX g0 g1 g2 g3
          go_wp2_with fail
          go_quiet (fail)
          go_wp2
          go_ret
          exact ⟨retb NO.out.symm, HB.out _⟩
        by_cases g4 : 1099511627776 < x3
        · have NO : Hid (formP ns (l.map Le.z) = false) := by
            unfold Hid formP; rw [NX.out, ndB_no (by unfold okp; omega)]; rfl
          have t0 : decide (x1 < 0) = false := by simpa using g0
          have t1 : decide (x2 < 1) = false := by simpa using g1
          have t2 : decide (64 < x2) = false := by simpa using g2
          have t3 : decide (x3 < 0) = false := by simpa using g3
          have t4 : decide (1099511627776 < x3) = true := by simpa using g4
          clear NX g0 g1 g2 g3 g4
          go_wp2_with fail
          go_quiet (fail)
          go_wp2
          go_ret
          exact ⟨retb NO.out.symm, HB.out _⟩
        have t0 : decide (x1 < 0) = false := by simpa using g0
        have t1 : decide (x2 < 1) = false := by simpa using g1
        have t2 : decide (64 < x2) = false := by simpa using g2
        have t3 : decide (x3 < 0) = false := by simpa using g3
        have t4 : decide (1099511627776 < x3) = false := by simpa using g4
        have YES : Hid (ndsB (-1) ns = ndsB x1 (ns.drop (0 + 1))) := by unfold Hid; rw [NX.out, ndB_yes (by unfold okp; omega)]; rfl
        have PX : Hid (-1 ≤ x1) := by unfold Hid; omega
        clear NX g0 g1 g2 g3 g4
        go_wp2_with fail
        go_quiet (fail)
        go_wp2
        go_roundw
        case rel => exact ⟨0 + 1, by omega, by go_num, by rw [PV.out]; exact YES, by rw [PV.out]; exact PX, HB.out _⟩
        case measure => simp [intOf]; omega
      · obtain ⟨m, rfl⟩ : ∃ m, k = m + 1 := ⟨k - 1, by omega⟩
        have e0 := keepc hB.out (R m (by omega)).1
        rw [pv_succ] at NX hpv
        have hpv' := hpv.out
        clear R hpv
        generalize (da ns m).id = p at *
        generalize da ns (m + 1) = nd at *
        obtain ⟨x1, x2, x3, x4, x5⟩ := nd
        simp only at *
        have BA : Hid (Below w.heap.size w (wr.alloc (.cells #[.int .i64 x1, .int .i64 x2, .int .i64 x3, .int .i64 x4, .int .i64 x5] 41))) := hB.out.alloc hB.out.size _
        have e1 := keepc (W := wr) (w1 := wr.alloc (.cells #[.int .i64 x1, .int .i64 x2, .int .i64 x3, .int .i64 x4, .int .i64 x5] 41)) ((Below.refl _ wr).alloc (Nat.le_refl _) _) e0
        have HB := hid (fun n => below_drewN BA.out n)
        have q0 : decide ((0 : Int) < ((m + 1 : Nat) : Int)) = true := decide_eq_true (by omega)
        have q1 : (0 : Int) ≤ (m : Int) := by omega
        have q2 : (m : Int) < (len : Int) := by omega
        have q3 : IntKind.i64.wrap (((m + 1 : Nat) : Int) - 1) = (m : Int) := by rw [IntKind.wrap_i64]; omega
        have q4 : (0 : Int) ≤ ((m + 1 : Nat) : Int) := by omega
        have q5 : ((m + 1 : Nat) : Int) < (len : Int) := by omega
        by_cases g0 : x1 < 0
        · have NO : Hid (formP ns (l.map Le.z) = false) := by
            unfold Hid formP; rw [NX.out, ndB_no (by unfold okp; omega)]; rfl
          have t0 : decide (x1 < 0) = true := by simpa using g0
          clear NX g0
          go_wp2_with fail
          go_quiet (fail)
          go_wp2
          go_ret
          exact ⟨retb NO.out.symm, HB.out _⟩
        by_cases g1 : x1 ≤ p
        · have NO : Hid (formP ns (l.map Le.z) = false) := by
            unfold Hid formP; rw [NX.out, ndB_no (by unfold okp; omega)]; rfl
          have t0 : decide (x1 < 0) = false := by simpa using g0
          have t1 : decide (x1 ≤ p) = true := by simpa using g1
          clear NX g0 g1
          go_wp2_with fail
          go_quiet (fail)
          go_wp2
          go_ret
          exact ⟨retb NO.out.symm, HB.out _⟩
        by_cases g2 : x2 < 1
        · have NO : Hid (formP ns (l.map Le.z) = false) := by
            unfold Hid formP; rw [NX.out, ndB_no (by unfold okp; omega)]; rfl
          have t0 : decide (x1 < 0) = false := by simpa using g0
          have t1 : decide (x1 ≤ p) = false := by simpa using g1
          have t2 : decide (x2 < 1) = true := by simpa using g2
          clear NX g0 g1 g2
          go_wp2_with fail
          go_quiet (fail)
          go_wp2
          go_ret
          exact ⟨retb NO.out.symm, HB.out _⟩
        by_cases g3 : 64 < x2
        · have NO : Hid (formP ns (l.map Le.z) = false) := by
            unfold Hid formP; rw [NX.out, ndB_no (by unfold okp; omega)]; rfl
          have t0 : decide (x1 < 0) = false := by simpa using g0
          have t1 : decide (x1 ≤ p) = false := by simpa using g1
          have t2 : decide (x2 < 1) = false := by simpa using g2
          have t3 : decide (64 < x2) = true := by simpa using g3
          clear NX g0 g1 g2 g3
          go_wp2_with fail
          go_quiet (fail)
          go_wp2
          go_ret
          exact ⟨retb NO.out.symm, HB.out _⟩
        by_cases g4 : x3 < 0
        · have NO : Hid (formP ns (l.map Le.z) = false) := by
            unfold Hid formP; rw [NX.out, ndB_no (by unfold okp; omega)]; rfl
          have t0 : decide (x1 < 0) = false := by simpa using g0
          have t1 : decide (x1 ≤ p) = false := by simpa using g1
          have t2 : decide (x2 < 1) = false := by simpa using g2
          have t3 : decide (64 < x2) = false := by simpa using g3
          have t4 : decide (x3 < 0) = true := by simpa using g4
          clear NX g0 g1 g2 g3 g4
          go_wp2_with fail
          go_quiet (fail)
          go_wp2
          go_ret
          exact ⟨retb NO.out.symm, HB.out _⟩
        by_cases g5 : 1099511627776 < x3
        · have NO : Hid (formP ns (l.map Le.z) = false) := by
            unfold Hid formP; rw [NX.out, ndB_no (by unfold okp; omega)]; rfl
          have t0 : decide (x1 < 0) = false := by simpa using g0
          have t1 : decide (x1 ≤ p) = false := by simpa using g1
          have t2 : decide (x2 < 1) = false := by simpa using g2
          have t3 : decide (64 < x2) = false := by simpa using g3
          have t4 : decide (x3 < 0) = false := by simpa using g4
          have t5 : decide (1099511627776 < x3) = true := by simpa using g5
          clear NX g0 g1 g2 g3 g4 g5
          go_wp2_with fail
          go_quiet (fail)
          go_wp2
          go_ret
          exact ⟨retb NO.out.symm, HB.out _⟩
        have t0 : decide (x1 < 0) = false := by simpa using g0
        have t1 : decide (x1 ≤ p) = false := by simpa using g1
        have t2 : decide (x2 < 1) = false := by simpa using g2
        have t3 : decide (64 < x2) = false := by simpa using g3
        have t4 : decide (x3 < 0) = false := by simpa using g4
        have t5 : decide (1099511627776 < x3) = false := by simpa using g5
        have YES : Hid (ndsB (-1) ns = ndsB x1 (ns.drop (m + 1 + 1))) := by unfold Hid; rw [NX.out, ndB_yes (by unfold okp; omega)]; rfl
        have PX : Hid (-1 ≤ x1) := by unfold Hid; omega
        clear NX g0 g1 g2 g3 g4 g5
        go_wp2_with fail
        go_quiet (fail)
        go_wp2
        go_roundw
        case rel => exact ⟨m + 1 + 1, by omega, by go_num, by rw [PV.out]; exact YES, by rw [PV.out]; exact PX, HB.out _⟩
        case measure => simp [intOf]; omega
    · have dk : ns.drop k = [] := List.drop_eq_nil_of_le (by rw [HL.out]; omega)
      have G2 : Hid (ndsB (-1) ns = true) := by unfold Hid; rw [hgo.out, dk]; rfl
      have FE : Hid (formP ns (l.map Le.z) = lesB ns [] (l.map Le.z)) := by unfold Hid formP; rw [G2.out, Bool.true_and]
      have B1 := hB
      clear hgo hpv hB dk
      rename World => w1
      go_wp2_with fail
      go_loopw [64] (fun i wr => ∃ k : Nat, k ≤ ql ∧ i = .int .i64 (k : Int) ∧ Hid (lesB ns [] (l.map Le.z) = lesB ns ((l.map Le.z).take k) ((l.map Le.z).drop k)) ∧ Hid (lesB ns [] ((l.map Le.z).take k) = true) ∧ Hid (Below w.heap.size w wr)) (fun i _ => ql - (intOf i).toNat)
      case atStart => exact ⟨0, by omega, rfl, rfl, rfl, B1⟩
      case round =>
        obtain ⟨k, hk, rfl, hgo, hpre, hB⟩ := hrel
        clear B1
        by_cases hlt : k < ql
        · have hlt' : k < l.length := by rw [HQL.out]; exact hlt
          obtain ⟨b, off, rfl, hbl, Rw⟩ := HQ.out.1.rowL (by omega)
          obtain ⟨d1, d2, d3, d4, d5, d6, d7, d8⟩ := Rw k hlt
          have c1 := keepc hB.out d1
          have c2 := keepc hB.out d2
          have c3 := keepc hB.out d3
          have c4 := keepc hB.out d4
          have c5 := keepc hB.out d5
          have c6 := keepc hB.out d6
          have c7 := keepc hB.out d7
          have c8 := keepc hB.out d8
          have RW := hid Rw
          have HC := hid (HQ.out.2 _ (la_mem hlt'))
          have NX : Hid (formP ns (l.map Le.z) = (leB ns ((l.map Le.z).take k) (la l k).z && lesB ns ((l.map Le.z).take k ++ [(la l k).z]) ((l.map Le.z).drop (k + 1)))) := by unfold Hid; rw [FE.out, hgo.out, drop_la hlt']; rfl
          have TN := hid (take_la hlt')
          have TZ := hid (fun j (hj : j < k) => take_lz hj (Nat.le_of_lt hlt'))
          have ka : (0 : Int) ≤ (k : Int) := by omega
          have kb : (k : Int) < (ql : Int) := by omega
          have kc : (k : Int) ≤ (qc : Int) := by omega
          clear d1 d2 d3 d4 d5 d6 d7 d8 Rw hgo
          generalize hx : la l k = x at *
          clear hx
          have PL : Hid (((l.map Le.z).take k).length = k) := by unfold Hid; rw [List.length_take, List.length_map]; omega
          have PM : Hid (∀ j, j < k → (la l j).z ∈ (l.map Le.z).take k) := fun j hj => by
            rw [List.mem_take_iff_getElem]
            refine ⟨j, by rw [List.length_map]; omega, ?_⟩
            rw [List.getElem_map]
            unfold la
            rw [List.getElem?_eq_getElem (by omega)]
            rfl
          generalize (l.map Le.z).take k = pre at *
          obtain ⟨x1, x2, x3, sa, sl, sc, x5, x6, x7, x8, co⟩ := x
          have BA : Hid (Below wr.heap.size wr (wr.alloc (.cells #[.int .i64 x1, .int .i64 x2, .int .i64 x3, .slice sa sl sc, .int .i64 x5, .int .i64 x6, .int .i64 x7, .bool x8] 43))) := (Below.refl _ wr).alloc (Nat.le_refl _) _
          have KA : Hid (Below w.heap.size w (wr.alloc (.cells #[.int .i64 x1, .int .i64 x2, .int .i64 x3, .slice sa sl sc, .int .i64 x5, .int .i64 x6, .int .i64 x7, .bool x8] 43))) := hB.out.alloc hB.out.size _
          have M2 : Hid ((wr.alloc (.cells #[.int .i64 x1, .int .i64 x2, .int .i64 x3, .slice sa sl sc, .int .i64 x5, .int .i64 x6, .int .i64 x7, .bool x8] 43)).cell? ⟨wr.heap.size, 2, none⟩ = some (.int .i64 x3)) := by unfold Hid; simp [go_sem]
          have M3 : Hid ((wr.alloc (.cells #[.int .i64 x1, .int .i64 x2, .int .i64 x3, .slice sa sl sc, .int .i64 x5, .int .i64 x6, .int .i64 x7, .bool x8] 43)).cell? ⟨wr.heap.size, 3, none⟩ = some (.slice sa sl sc)) := by unfold Hid; simp [go_sem]
          have M4 : Hid ((wr.alloc (.cells #[.int .i64 x1, .int .i64 x2, .int .i64 x3, .slice sa sl sc, .int .i64 x5, .int .i64 x6, .int .i64 x7, .bool x8] 43)).cell? ⟨wr.heap.size, 4, none⟩ = some (.int .i64 x5)) := by unfold Hid; simp [go_sem]
          have ND := hid (fun W (hW : Below w.heap.size w W) => rnode_any a len cap ns x3 W (HH.out.below hW))
          go_wp2_with fail
          refine (ND.out _ KA.out).mono ?_
          rintro e w2 ⟨rfl, b2⟩
          have K2 := hid (KA.out.trans (b2.mono KA.out.size))
          have m2 := keepc b2 M2.out
          have m3 := keepc b2 M3.out
          have m4 := keepc b2 M4.out
          clear b2 ND KA BA M2 M3 M4 c1 c2 c3 c4 c5 c6 c7 c8
          by_cases hJ : ndI ns x3 < ns.length
          case neg =>
            have NO : Hid (formP ns (l.map Le.z) = false) := by unfold Hid; rw [NX.out]; unfold leB; rw [show decide (ndI ns (Le.z ⟨x1, x2, x3, sa, sl, sc, x5, x6, x7, x8, co⟩).no < ns.length) = false from decide_eq_false hJ]; rfl
            rw [decide_eq_false hJ]
            have K3 := hid (fun o => K2.out.alloc K2.out.size o)
            clear NX TN TZ hJ
            generalize da ns (ndI ns x3) = nd at *
            obtain ⟨n1, n2, n3, n4, n5⟩ := nd
            simp only
            go_wp2
            go_ret
            exact ⟨retb NO.out.symm, K3.out _⟩
          have HJ := hid hJ
          have LX : Hid (leB ns pre ⟨x3, x5, co⟩ = (coB (da ns (ndI ns x3)).co co && !(decide (x5 < 0)) && !(decide (1099511627776 < x5)) && (co.all fun c => !(hasN (taken x3 pre) c)) && !(decide ((da ns (ndI ns x3)).me < usedM x3 pre + x5)))) := by
            unfold Hid leB; rw [show decide (ndI ns (Lz.mk x3 x5 co).no < ns.length) = true from decide_eq_true hJ, Bool.true_and]
          have hid0 := ndI_id hJ
          have hnn := ((ndsB_iff.1 G2.out).1 _ hJ).1
          have UM := hid (fun j => usedM_take G2.out (da_mem hJ) hpre.out j)
          rw [hid0] at UM
          have UA := hid (usedM_take G2.out (da_mem hJ) hpre.out k)
          rw [hid0, ← PL.out, List.take_length] at UA
          rw [decide_eq_true hJ]
          clear hJ hid0
          generalize da ns (ndI ns x3) = nd at *
          obtain ⟨n1, n2, n3, n4, n5⟩ := nd
          simp only at *
          have hn3 := hnn.2.2
          unfold okp at hn3
          have BN : Hid (Below w2.heap.size w2 (w2.alloc (.cells #[.int .i64 n1, .int .i64 n2, .int .i64 n3, .int .i64 n4, .int .i64 n5] 41))) := (Below.refl _ w2).alloc (Nat.le_refl _) _
          have KN : Hid (Below w.heap.size w (w2.alloc (.cells #[.int .i64 n1, .int .i64 n2, .int .i64 n3, .int .i64 n4, .int .i64 n5] 41))) := K2.out.alloc K2.out.size _
          replace m2 := hid (keepc BN.out m2)
          have r3 := keepc BN.out m3
          have m3' := hid r3
          have r4 := keepc BN.out m4
          have m4' := hid r4
          have N2 : Hid ((w2.alloc (.cells #[.int .i64 n1, .int .i64 n2, .int .i64 n3, .int .i64 n4, .int .i64 n5] 41)).cell? ⟨w2.heap.size, 2, none⟩ = some (.int .i64 n3)) := by unfold Hid; simp [go_sem]
          have CR := hid (fun W (hW : Below w.heap.size w W) => rcores_any sa sl sc co n1 n2 n3 n4 n5 W (HC.out.below hW))
          have ccap := HC.out.2.1
          have ccm := HC.out.2.2.1
          clear m3 m4
          cases hco : coB n2 co
          · have NO : Hid (formP ns (l.map Le.z) = false) := by unfold Hid; rw [NX.out]; show (leB ns pre ⟨x3, x5, co⟩ && _) = false; rw [LX.out, hco]; rfl
            rw [hco] at CR
            clear NX TN TZ LX hco
            go_wp2_with fail
            refine (CR.out _ KN.out).mono ?_
            rintro e w3 ⟨rfl, b3⟩
            have K3 := hid (KN.out.trans (b3.mono KN.out.size))
            clear b3
            go_wp2
            go_ret
            exact ⟨retb NO.out.symm, K3.out⟩
          have SL := co_le hco hnn.2.1 (by omega)
          have hsl : sl ≤ 64 := by rw [← HC.out.1]; exact SL
          rw [hco] at CR
          rw [hco, Bool.true_and] at LX
          clear hco SL
          go_wp2_with fail
          refine (CR.out _ KN.out).mono ?_
          rintro e w3 ⟨rfl, b3⟩
          have K3 := hid (KN.out.trans (b3.mono KN.out.size))
          replace m2 := keepc b3 m2.out
          have m3 := keepc b3 m3'.out
          have m4 := keepc b3 m4'.out
          have n2' := hid (keepc b3 N2.out)
          clear b3 CR m3' m4' N2 r3 r4
          by_cases g1 : x5 < 0
          · have t1 : decide (x5 < 0) = true := by simpa using g1
            have NO : Hid (formP ns (l.map Le.z) = false) := by unfold Hid; rw [NX.out]; show (leB ns pre ⟨x3, x5, co⟩ && _) = false; rw [LX.out, t1]; rfl
            clear NX TN TZ LX
            go_wp2
            go_ret
            exact ⟨retb NO.out.symm, K3.out⟩
          have t1 : decide (x5 < 0) = false := by simpa using g1
          by_cases g2 : 1099511627776 < x5
          · have t2 : decide (1099511627776 < x5) = true := by simpa using g2
            have NO : Hid (formP ns (l.map Le.z) = false) := by unfold Hid; rw [NX.out]; show (leB ns pre ⟨x3, x5, co⟩ && _) = false; rw [LX.out, t1, t2]; rfl
            clear NX TN TZ LX
            go_wp2
            go_ret
            exact ⟨retb NO.out.symm, K3.out⟩
          have t2 : decide (1099511627776 < x5) = false := by simpa using g2
          rw [t1, t2] at LX
          have LX' : Hid (leB ns pre ⟨x3, x5, co⟩ = ((co.all fun c => !(hasN (taken x3 pre) c)) && !(decide (n3 < usedM x3 pre + x5)))) := by unfold Hid; rw [LX.out]; simp
          have MM := hid (And.intro m2 (And.intro m3 m4))
          have HHC := hid (HC.out.below K3.out)
          clear LX
          go_wp2_with fail
          clear m2 m3 m4
          go_loopw [101, 11] (fun i mm wq => ∃ j : Nat, j ≤ k ∧ i = .int .i64 (j : Int) ∧ mm = .int .i64 (x5 + usedM x3 (pre.take j)) ∧ Hid (∀ c ∈ taken x3 (pre.take j), hasN co c = false) ∧ Hid (Below w3.heap.size w3 wq)) (fun i _ _ => k - (intOf i).toNat)
          case atStart => exact ⟨0, by omega, rfl, by simp [usedM], fun c hc => by simp [taken] at hc, Below.refl _ _⟩
          case round =>
            obtain ⟨j, hj, rfl, rfl, hap, hB3⟩ := hrel
            rename World => wq
            have m2 := keepc hB3.out MM.out.1
            have m3 := keepc hB3.out MM.out.2.1
            have m4 := keepc hB3.out MM.out.2.2
            have n3' := keepc hB3.out n2'.out
            have KQ := hid (K3.out.trans (hB3.out.mono K3.out.size))
            by_cases hjl : j < k
            · obtain ⟨d1, d2, d3, d4, d5, d6, d7, d8⟩ := RW.out j (by omega)
              have c1 := keepc KQ.out d1
              have c2 := keepc KQ.out d2
              have c3 := keepc KQ.out d3
              have c4 := keepc KQ.out d4
              have c5 := keepc KQ.out d5
              have c6 := keepc KQ.out d6
              have c7 := keepc KQ.out d7
              have c8 := keepc KQ.out d8
              have HY := hid (HQ.out.2 _ (la_mem (show j < l.length by omega)))
              have TJ := hid (TZ.out j hjl)
              have YM := hid (PM.out j hjl)
              have ja : (0 : Int) ≤ (j : Int) := by omega
              have jb : (j : Int) < (k : Int) := by omega
              clear d1 d2 d3 d4 d5 d6 d7 d8
              generalize hy : la l j = y at *
              clear hy
              obtain ⟨y1, y2, y3, ya, yl, yc, y5, y6, y7, y8, yo⟩ := y
              have BY : Hid (Below wq.heap.size wq (wq.alloc (.cells #[.int .i64 y1, .int .i64 y2, .int .i64 y3, .slice ya yl yc, .int .i64 y5, .int .i64 y6, .int .i64 y7, .bool y8] 43))) := (Below.refl _ wq).alloc (Nat.le_refl _) _
              have B4 : Hid (Below w3.heap.size w3 (wq.alloc (.cells #[.int .i64 y1, .int .i64 y2, .int .i64 y3, .slice ya yl yc, .int .i64 y5, .int .i64 y6, .int .i64 y7, .bool y8] 43))) := hB3.out.alloc hB3.out.size _
              have o2 := keepc BY.out m2
              have o3 := keepc BY.out m3
              have UJ := UM.out (j + 1)
              rw [TJ.out, usedM_one] at UJ
              have UJ0 := UM.out j
              by_cases gn : y3 = x3
              · have tn : (y3 != x3) = false := by simpa using gn
                have gn' : (Le.z ⟨y1, y2, y3, ya, yl, yc, y5, y6, y7, y8, yo⟩).no = x3 := gn
                rw [if_pos gn'] at UJ
                have MS : Hid (Value.int .i64 (x5 + usedM x3 (pre.take j) + y5) = .int .i64 (x5 + usedM x3 (pre.take (j + 1)))) := by unfold Hid; rw [TJ.out, usedM_one, if_pos gn']; show _ = Value.int .i64 (x5 + (usedM x3 (pre.take j) + y5)); rw [Int.add_assoc]
                have TT : Hid (taken x3 (pre.take (j + 1)) = taken x3 (pre.take j) ++ yo) := by unfold Hid; rw [TJ.out, taken_one, if_pos gn']; rfl
                have hw : IntKind.i64.wrap (x5 + usedM x3 (pre.take j) + y5) = x5 + usedM x3 (pre.take j) + y5 := by
                  have e5 : (Le.z ⟨y1, y2, y3, ya, yl, yc, y5, y6, y7, y8, yo⟩).me = y5 := rfl
                  rw [e5] at UJ
                  rw [IntKind.wrap_i64]; omega
                have MT := hid (fun c (hc : c ∈ yo) => mem_taken YM.out gn' (c := c) hc)
                have ycap := HY.out.2.1
                have ycm := HY.out.2.2.1
                clear TJ UJ UJ0 gn YM gn'
                generalize x5 + usedM x3 (pre.take j) = MJ at *
                go_wp2_with fail
                clear c1 c2 c3 c4 c5 c6 c7 c8 m2 m3 m4
                have HY4 := hid ((HY.out.below KQ.out).below BY.out)
                have HC4 := hid (HHC.out.below B4.out)
                have NI3 := hid (keepc BY.out n3')
                have BB4 := hid (KQ.out.alloc KQ.out.size (.cells #[.int .i64 y1, .int .i64 y2, .int .i64 y3, .slice ya yl yc, .int .i64 y5, .int .i64 y6, .int .i64 y7, .bool y8] 43))
                clear n3' BY
                generalize wq.alloc (.cells #[.int .i64 y1, .int .i64 y2, .int .i64 y3, .slice ya yl yc, .int .i64 y5, .int .i64 y6, .int .i64 y7, .bool y8] 43) = w4 at *
                go_loopw [117] (fun i ws => ∃ q : Nat, q ≤ yl ∧ i = .int .i64 (q : Int) ∧ Hid (∀ c ∈ yo.take q, hasN co c = false) ∧ w4 = ws) (fun i _ => yl - (intOf i).toNat)
                case atStart => exact ⟨0, by omega, rfl, fun c hc => by simp at hc, rfl⟩
                case round =>
                  obtain ⟨q, hq, rfl, hqa, rfl⟩ := hrel
                  by_cases hql : q < yl
                  · have hq' : q < yo.length := by rw [HY.out.1]; exact hql
                    obtain ⟨yb, yof, rfl, RY⟩ := HY4.out.rowA (by omega)
                    have z0 := RY q hql
                    have qa1 : (0 : Int) ≤ (q : Int) := by omega
                    have qb1 : (q : Int) < (yl : Int) := by omega
                    have HS := hid (hasN_any sa sl sc co (na yo q) w4 HC4.out (by omega))
                    have QN := hid (take_na hq')
                    have MC := hid (MT.out _ (na_mem hq'))
                    clear RY
                    generalize na yo q = c at *
                    cases hh : hasN co c
                    · rw [hh] at HS
                      have QA : Hid (∀ d ∈ yo.take (q + 1), hasN co d = false) := fun d hd => by
                        rw [QN.out] at hd
                        rcases List.mem_append.1 hd with h | h
                        · exact hqa.out d h
                        · simp at h; rw [h]; exact hh
                      clear hh QN MC
                      go_wp2_with fail
                      refine HS.out.mono ?_
                      rintro e w5 ⟨rfl, rfl⟩
                      go_wp2
                      go_roundw
                      case rel => exact ⟨q + 1, by omega, by go_num, QA, trivial⟩
                      case measure => simp [intOf]; omega
                    · rw [hh] at HS
                      have NO : Hid (formP ns (l.map Le.z) = false) := by unfold Hid; rw [NX.out]; show (leB ns pre ⟨x3, x5, co⟩ && _) = false; rw [LX'.out, all_meets MC.out hh]; rfl
                      clear hh QN MC NX TN TZ
                      go_wp2_with fail
                      refine HS.out.mono ?_
                      rintro e w5 ⟨rfl, rfl⟩
                      go_wp2
                      go_ret
                      exact ⟨retb NO.out.symm, BB4.out⟩
                  · have tk : yo.take q = yo := List.take_of_length_le (by rw [HY.out.1]; omega)
                    rw [tk] at hqa
                    have AP : Hid (∀ c ∈ taken x3 (pre.take (j + 1)), hasN co c = false) := fun c hc => by
                      rw [TT.out] at hc
                      rcases List.mem_append.1 hc with h | h
                      · exact hap.out c h
                      · exact hqa.out c h
                    clear hqa
                    go_wp2
                    go_roundw
                    case rel => exact ⟨j + 1, by omega, by go_num, MS.out, AP, B4⟩
                    case measure => simp [intOf]; omega
              · have tn : (y3 != x3) = true := by simpa using gn
                have gn' : ¬ (Le.z ⟨y1, y2, y3, ya, yl, yc, y5, y6, y7, y8, yo⟩).no = x3 := gn
                have MS : Hid (x5 + usedM x3 (pre.take j) = x5 + usedM x3 (pre.take (j + 1))) := by unfold Hid; rw [TJ.out, usedM_one, if_neg gn', Int.add_zero]
                have AP : Hid (∀ c ∈ taken x3 (pre.take (j + 1)), hasN co c = false) := by unfold Hid; rw [TJ.out, taken_one, if_neg gn', List.append_nil]; exact hap.out
                clear TJ UJ UJ0 gn YM gn' HY
                rw [MS.out]
                generalize hMJ : x5 + usedM x3 (pre.take (j + 1)) = MJ at *
                have HMJ := hid hMJ
                clear MS hMJ
                go_wp2
                go_roundw
                case rel => exact ⟨j + 1, by omega, by go_num, by rw [HMJ.out], AP, B4⟩
                case measure => simp [intOf]; omega
            · have tk : pre.take j = pre := List.take_of_length_le (by rw [PL.out]; omega)
              rw [tk] at hap
              simp only [tk]
              have AA := all_apart hap.out
              rw [AA, Bool.true_and] at LX'
              by_cases g3 : n3 < x5 + usedM x3 pre
              · have t3 : decide (n3 < x5 + usedM x3 pre) = true := by simpa using g3
                have NO : Hid (formP ns (l.map Le.z) = false) := by unfold Hid; rw [NX.out]; show (leB ns pre ⟨x3, x5, co⟩ && _) = false; rw [LX'.out, decide_eq_true (by omega)]; rfl
                clear NX TN TZ LX' AA g3
                generalize x5 + usedM x3 pre = MJ at *
                go_wp2
                go_ret
                exact ⟨retb NO.out.symm, KQ.out⟩
              · have t3 : decide (n3 < x5 + usedM x3 pre) = false := by simpa using g3
                have YES : leB ns pre ⟨x3, x5, co⟩ = true := by rw [LX'.out, decide_eq_false (by omega)]; rfl
                have P3 : Hid (lesB ns [] (pre ++ [⟨x3, x5, co⟩]) = true) := by unfold Hid; rw [lesB_one, hpre.out, Bool.true_and]; exact YES
                have N3 : Hid (lesB ns [] (l.map Le.z) = lesB ns (pre ++ [⟨x3, x5, co⟩]) ((l.map Le.z).drop (k + 1))) := by unfold Hid; rw [← FE.out, NX.out]; show (leB ns pre ⟨x3, x5, co⟩ && _) = _; rw [YES, Bool.true_and]; rfl
                have TN' : Hid ((l.map Le.z).take (k + 1) = pre ++ [⟨x3, x5, co⟩]) := TN.out
                rw [← TN'.out] at P3 N3
                clear NX TN TZ LX' AA g3 YES
                generalize x5 + usedM x3 pre = MJ at *
                go_wp2
                go_roundw
                case rel => exact ⟨k + 1, by omega, by go_num, N3, P3, KQ⟩
                case measure => simp [intOf]; omega
        · have tk : (l.map Le.z).take k = l.map Le.z := List.take_of_length_le (by rw [List.length_map, HQL.out]; omega)
          rw [tk] at hpre
          have YES : Hid (formP ns (l.map Le.z) = true) := by unfold Hid; rw [FE.out]; exact hpre.out
          clear hgo
          go_wp2
          go_ret
          exact ⟨retb YES.out.symm, hB.out⟩

set_option maxHeartbeats 1000000 in
theorem rplcheck_any (a : Option Addr) (len cap : Nat) (ns : List Nd) (qa : Option Addr) (ql qc : Nat) (l : List Le) (w : World) (h : HoldsD w a len cap ns) (hl : HoldsL w qa ql qc l) :
    Calls Try.prog 40 #[.slice a len cap, .slice qa ql qc] w fun e w' => e = .returned (.int .i64 (plE ns (l.map Le.z))) ∧ Below w.heap.size w w' := by
  have HL := h.1
  by_cases g : 64 < len
  · have t : decide ((64 : Int) < (len : Int)) = true := by simp; omega
    have E : Hid (plE ns (l.map Le.z) = 3) := by unfold Hid plE; rw [HL, if_pos g]
    clear g h hl
    go_enter Try.func40, Try.ntmps40
    go_wp2
    go_ret
    exact ⟨ret1 E.out.symm, Below.refl _ _⟩
  · have t : decide ((64 : Int) < (len : Int)) = false := by simp; omega
    have FO := hid (rform_any a len cap ns qa ql qc l w h hl (by omega))
    have E : Hid (plE ns (l.map Le.z) = if formP ns (l.map Le.z) = true then 0 else 4) := by unfold Hid plE; rw [HL, if_neg g]
    clear g h hl
    cases hf : formP ns (l.map Le.z)
    · rw [hf] at FO E
      have E' : Hid (plE ns (l.map Le.z) = 4) := E.out
      clear hf E
      go_enter Try.func40, Try.ntmps40
      go_wp2_with fail
      refine FO.out.mono ?_
      rintro e w1 ⟨rfl, b1⟩
      go_wp2
      go_ret
      exact ⟨ret1 E'.out.symm, b1⟩
    · rw [hf] at FO E
      have E' : Hid (plE ns (l.map Le.z) = 0) := E.out
      clear hf E
      go_enter Try.func40, Try.ntmps40
      go_wp2_with fail
      refine FO.out.mono ?_
      rintro e w1 ⟨rfl, b1⟩
      go_wp2
      go_ret
      exact ⟨ret1 E'.out.symm, b1⟩

end Go.Proofs.Ytikalkigmnipiaa
