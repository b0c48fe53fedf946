/-
  law09: a call of both groups.
-/
import Derived.Test.YtdenhpclopjjgaaGT
namespace Go.Proofs.Ytdenhpclopjjgaa
open Go.RowKit Go.Deep Go.Maps
set_option linter.unusedVariables false
set_option linter.unusedSimpArgs false

/-- What a call of a script makes of the clients. -/
def opS (l : List Cl) (o : Oc) : List Cl := if o.kd = 0 then joinM l o.id o.tk o.rm else if o.kd = 1 then leaveM l o.id else if o.kd = 2 then changeM l o.id o.tk else if o.kd = 3 then pickM l else runM l o.nn
theorem Gr.opS {l : List Cl} (h : Gr l) {o : Oc} (ho : o.ok) : Gr (opS l o) := by
  unfold Go.Proofs.Ytdenhpclopjjgaa.opS
  split
  · exact h.join ho.2.1
  · split
    · exact h.leave _
    · split
      · exact h.change _ _
      · split
        · exact h.pick
        · exact h.run _

/-- Neither block is that of a slice. -/
def Sep (w : World) (a : Option Addr) (gb r : Nat) : Prop := ∀ x o, a = some ⟨x, o, none⟩ → x ≠ gb ∧ x ≠ r ∧ x < w.heap.size
/-- What stands behind a call of both: the document's list, the group. -/
def Both (w : World) (gb r : Nat) (m : List Cl) (v : Value) (w' : World) : Prop :=
  ∃ a' cap' r', v = .slice a' m.length cap' ∧ Grp w' gb r' m ∧ HoldsC w' a' m.length cap' m ∧ Sep w' a' gb r' ∧ Tn gb r w w' ∧ (r' = r ∨ w.heap.size ≤ r')
theorem Tn.holdsS {gb r : Nat} {w w' : World} {a : Option Addr} {len cap : Nat} {l : List Cl} (h : Tn gb r w w') (hh : HoldsC w a len cap l) (hs : ∀ x o, a = some ⟨x, o, none⟩ → x ≠ gb ∧ x ≠ r) : HoldsC w' a len cap l := h.holds hh (fun x o e _ => hs x o e)
/-- First the document's, then the group. -/
theorem both_ref {w w1 w2 w3 : World} {gb r r' : Nat} {a : Option Addr} {l m : List Cl} {v : Value} (hg : Grp w gb r l) (hs : Sep w a gb r) (b1 : Below w.heap.size w w1) (R : Reads a w1 m v w2)
    (G : Grp w3 gb r' m) (T : Tn gb r w2 w3) (P : r' = r ∨ w2.heap.size ≤ r') : Both w gb r m v w3 := by
  obtain ⟨a', cap', rfl, h2, b2, n2⟩ := R
  obtain ⟨g1, g2⟩ := hg.lt
  have s1 := b1.size
  have s2 := b2.size
  have s3 := T.size
  have hx : ∀ x o, a' = some ⟨x, o, none⟩ → x ≠ gb ∧ x ≠ r ∧ x < w2.heap.size := by
    intro x o e
    rcases n2 x o e with h | h
    · omega
    · have := hs x o (by rw [← h]; exact e)
      omega
  refine ⟨a', cap', r', rfl, G, T.holdsS h2 (fun x o e => ⟨(hx x o e).1, (hx x o e).2.1⟩), fun x o e => ?_, ((Tn.of b1).step b2).trans T (.inl rfl), ?_⟩
  · have := hx x o e
    rcases P with h | h <;> omega
  · rcases P with h | h
    · exact .inl h
    · exact .inr (by omega)
/-- First the group, then the document's. -/
theorem both_grp {w w1 w2 w3 : World} {gb r r' : Nat} {a : Option Addr} {l m : List Cl} {v : Value} (hg : Grp w gb r l) (hs : Sep w a gb r) (b1 : Below w.heap.size w w1) (G : Grp w2 gb r' m) (T : Tn gb r w1 w2) (P : r' = r ∨ w1.heap.size ≤ r')
    (R : Reads a w2 m v w3) : Both w gb r m v w3 := by
  obtain ⟨a', cap', rfl, h2, b2, n2⟩ := R
  obtain ⟨g1, g2⟩ := hg.lt
  obtain ⟨g3, g4⟩ := G.lt
  have s1 := b1.size
  have s2 := b2.size
  have s3 := T.size
  refine ⟨a', cap', r', rfl, G.below b2, h2, fun x o e => ?_, ((Tn.of b1).trans T (.inl rfl)).step b2, ?_⟩
  · rcases n2 x o e with h | h
    · omega
    · have := hs x o (by rw [← h]; exact e)
      rcases P with h | h <;> omega
  · rcases P with h | h
    · exact .inl h
    · exact .inr (by omega)
abbrev boxO (o : Oc) : Obj := .cells #[.int .i64 o.kd, .int .i64 o.id, .int .i64 o.tk, .int .i64 o.rm, .int .i64 o.nn] 28

section
variable {gb r len cap : Nat} {a : Option Addr} {l : List Cl} {w : World}

set_option maxRecDepth 100000 in
set_option maxHeartbeats 8000000 in
theorem play0 (id tk rm nn : Int) (hg : Grp w gb r l) (hl : HoldsC w a len cap l) (hG : Gr l) (hs : Sep w a gb r) (hi : I64 id) :
    Calls Try.prog 11 #[gp gb, .slice a len cap, .agg #[.int .i64 0, .int .i64 id, .int .i64 tk, .int .i64 rm, .int .i64 nn]] w fun e w' => ∃ v, e = .returned (.tuple #[v, .bool true]) ∧ Both w gb r (joinM l id tk rm) v w' := by
  have B1 : Hid (Below w.heap.size w (w.alloc (boxO ⟨0, id, tk, rm, nn⟩))) := (Below.refl _ _).alloc (Nat.le_refl _) _
  have H1 := hid (hl.below B1.out)
  have G1 := hid (hg.below B1.out)
  have HGR := hid hG
  have HG := hid hg
  have HS := hid hs
  have HI := hid hi
  have HLN := hid hl.1
  have D1 : Hid ((w.alloc (boxO ⟨0, id, tk, rm, nn⟩)).cell? ⟨w.heap.size, 1, none⟩ = some (.int .i64 id)) := by simp [Hid, go_sem]
  have D2 : Hid ((w.alloc (boxO ⟨0, id, tk, rm, nn⟩)).cell? ⟨w.heap.size, 2, none⟩ = some (.int .i64 tk)) := by simp [Hid, go_sem]
  have D3 : Hid ((w.alloc (boxO ⟨0, id, tk, rm, nn⟩)).cell? ⟨w.heap.size, 3, none⟩ = some (.int .i64 rm)) := by simp [Hid, go_sem]
  have D4 : Hid ((w.alloc (boxO ⟨0, id, tk, rm, nn⟩)).cell? ⟨w.heap.size, 4, none⟩ = some (.int .i64 nn)) := by simp [Hid, go_sem]
  have hltg := hg.lt
  clear hg hl hG hs hi
  go_enter Try.func11, Try.ntmps11
  go_wp2_with fail
  refine (rjoin_any a len cap l id tk rm _ H1.out HGR.out HI.out).mono ?_
  rintro e w2 ⟨v, rfl, R2⟩
  have HR2 := hid R2
  obtain ⟨a2, cap2, rfl, h2, b2, n2⟩ := R2
  have d1 := keepc b2 D1.out
  have d2 := keepc b2 D2.out
  have d3 := keepc b2 D3.out
  have G2 := hid (G1.out.below b2)
  have te : (joinE l id tk rm == joinE l id tk rm) = true := by simp
  clear h2 b2 n2
  go_wp2_with fail
  refine (join_any gb r l id tk rm w2 G2.out HGR.out HI.out).mono ?_
  rintro e w3 ⟨r3, rfl, g3, t3, p3⟩
  have BO := hid (both_ref HG.out HS.out B1.out HR2.out g3 t3 p3)
  clear g3 t3 p3
  go_wp2
  go_ret2
  exact ⟨_, rfl, BO.out⟩

set_option maxRecDepth 100000 in
set_option maxHeartbeats 8000000 in
theorem play1 (id tk rm nn : Int) (hg : Grp w gb r l) (hl : HoldsC w a len cap l) (hG : Gr l) (hs : Sep w a gb r) (hi : I64 id) :
    Calls Try.prog 11 #[gp gb, .slice a len cap, .agg #[.int .i64 1, .int .i64 id, .int .i64 tk, .int .i64 rm, .int .i64 nn]] w fun e w' => ∃ v, e = .returned (.tuple #[v, .bool true]) ∧ Both w gb r (leaveM l id) v w' := by
  have B1 : Hid (Below w.heap.size w (w.alloc (boxO ⟨1, id, tk, rm, nn⟩))) := (Below.refl _ _).alloc (Nat.le_refl _) _
  have H1 := hid (hl.below B1.out)
  have G1 := hid (hg.below B1.out)
  have HGR := hid hG
  have HG := hid hg
  have HS := hid hs
  have HI := hid hi
  have HLN := hid hl.1
  have D1 : Hid ((w.alloc (boxO ⟨1, id, tk, rm, nn⟩)).cell? ⟨w.heap.size, 1, none⟩ = some (.int .i64 id)) := by simp [Hid, go_sem]
  have D2 : Hid ((w.alloc (boxO ⟨1, id, tk, rm, nn⟩)).cell? ⟨w.heap.size, 2, none⟩ = some (.int .i64 tk)) := by simp [Hid, go_sem]
  have D3 : Hid ((w.alloc (boxO ⟨1, id, tk, rm, nn⟩)).cell? ⟨w.heap.size, 3, none⟩ = some (.int .i64 rm)) := by simp [Hid, go_sem]
  have D4 : Hid ((w.alloc (boxO ⟨1, id, tk, rm, nn⟩)).cell? ⟨w.heap.size, 4, none⟩ = some (.int .i64 nn)) := by simp [Hid, go_sem]
  have hltg := hg.lt
  clear hg hl hG hs hi
  go_enter Try.func11, Try.ntmps11
  have d1 := D1.out
  go_wp2_with fail
  refine (leave_any gb r l id _ G1.out HGR.out).mono ?_
  rintro e w2 ⟨r2, rfl, g2, t2, p2⟩
  have G2 := hid g2
  have T2 := hid t2
  have P2 := hid p2
  have H2 := hid (t2.holdsS H1.out (fun x o e => by have := HS.out x o e; omega))
  have d1 := t2.cell D1.out (by omega) (by omega)
  have te : (leaveV l id == leaveV l id) = true := by simp
  have tf : (leaveE l id == leaveE l id) = true := by simp
  clear g2 t2 p2
  go_wp2_with fail
  refine (rleave_any a len cap l id w2 H2.out HGR.out).mono ?_
  rintro e w3 ⟨v, rfl, R3⟩
  have BO := hid (both_grp HG.out HS.out B1.out G2.out T2.out P2.out R3)
  clear R3
  go_wp2
  go_ret2
  exact ⟨_, rfl, BO.out⟩

set_option maxRecDepth 100000 in
set_option maxHeartbeats 8000000 in
theorem play2 (id tk rm nn : Int) (hg : Grp w gb r l) (hl : HoldsC w a len cap l) (hG : Gr l) (hs : Sep w a gb r) (hi : I64 id) :
    Calls Try.prog 11 #[gp gb, .slice a len cap, .agg #[.int .i64 2, .int .i64 id, .int .i64 tk, .int .i64 rm, .int .i64 nn]] w fun e w' => ∃ v, e = .returned (.tuple #[v, .bool true]) ∧ Both w gb r (changeM l id tk) v w' := by
  have B1 : Hid (Below w.heap.size w (w.alloc (boxO ⟨2, id, tk, rm, nn⟩))) := (Below.refl _ _).alloc (Nat.le_refl _) _
  have H1 := hid (hl.below B1.out)
  have G1 := hid (hg.below B1.out)
  have HGR := hid hG
  have HG := hid hg
  have HS := hid hs
  have HI := hid hi
  have HLN := hid hl.1
  have D1 : Hid ((w.alloc (boxO ⟨2, id, tk, rm, nn⟩)).cell? ⟨w.heap.size, 1, none⟩ = some (.int .i64 id)) := by simp [Hid, go_sem]
  have D2 : Hid ((w.alloc (boxO ⟨2, id, tk, rm, nn⟩)).cell? ⟨w.heap.size, 2, none⟩ = some (.int .i64 tk)) := by simp [Hid, go_sem]
  have D3 : Hid ((w.alloc (boxO ⟨2, id, tk, rm, nn⟩)).cell? ⟨w.heap.size, 3, none⟩ = some (.int .i64 rm)) := by simp [Hid, go_sem]
  have D4 : Hid ((w.alloc (boxO ⟨2, id, tk, rm, nn⟩)).cell? ⟨w.heap.size, 4, none⟩ = some (.int .i64 nn)) := by simp [Hid, go_sem]
  have hltg := hg.lt
  clear hg hl hG hs hi
  go_enter Try.func11, Try.ntmps11
  have d1 := D1.out
  have d2 := D2.out
  go_wp2_with fail
  refine (rchange_any a len cap l id tk _ H1.out HGR.out).mono ?_
  rintro e w2 ⟨v, rfl, R2⟩
  have HR2 := hid R2
  obtain ⟨a2, cap2, rfl, h2, b2, n2⟩ := R2
  have d1 := keepc b2 D1.out
  have d2 := keepc b2 D2.out
  have G2 := hid (G1.out.below b2)
  have te : (changeE l id tk == changeE l id tk) = true := by simp
  clear h2 b2 n2
  go_wp2_with fail
  refine (change_any gb r l id tk w2 G2.out HGR.out).mono ?_
  rintro e w3 ⟨r3, rfl, g3, t3, p3⟩
  have BO := hid (both_ref HG.out HS.out B1.out HR2.out g3 t3 p3)
  clear g3 t3 p3
  go_wp2
  go_ret2
  exact ⟨_, rfl, BO.out⟩

set_option maxRecDepth 100000 in
set_option maxHeartbeats 8000000 in
theorem play3 (id tk rm nn : Int) (hg : Grp w gb r l) (hl : HoldsC w a len cap l) (hG : Gr l) (hs : Sep w a gb r) (hi : I64 id) :
    Calls Try.prog 11 #[gp gb, .slice a len cap, .agg #[.int .i64 3, .int .i64 id, .int .i64 tk, .int .i64 rm, .int .i64 nn]] w fun e w' => ∃ v, e = .returned (.tuple #[v, .bool true]) ∧ Both w gb r (pickM l) v w' := by
  have B1 : Hid (Below w.heap.size w (w.alloc (boxO ⟨3, id, tk, rm, nn⟩))) := (Below.refl _ _).alloc (Nat.le_refl _) _
  have H1 := hid (hl.below B1.out)
  have G1 := hid (hg.below B1.out)
  have HGR := hid hG
  have HG := hid hg
  have HS := hid hs
  have HI := hid hi
  have HLN := hid hl.1
  have D1 : Hid ((w.alloc (boxO ⟨3, id, tk, rm, nn⟩)).cell? ⟨w.heap.size, 1, none⟩ = some (.int .i64 id)) := by simp [Hid, go_sem]
  have D2 : Hid ((w.alloc (boxO ⟨3, id, tk, rm, nn⟩)).cell? ⟨w.heap.size, 2, none⟩ = some (.int .i64 tk)) := by simp [Hid, go_sem]
  have D3 : Hid ((w.alloc (boxO ⟨3, id, tk, rm, nn⟩)).cell? ⟨w.heap.size, 3, none⟩ = some (.int .i64 rm)) := by simp [Hid, go_sem]
  have D4 : Hid ((w.alloc (boxO ⟨3, id, tk, rm, nn⟩)).cell? ⟨w.heap.size, 4, none⟩ = some (.int .i64 nn)) := by simp [Hid, go_sem]
  have hltg := hg.lt
  clear hg hl hG hs hi
  by_cases hp : l.length = 0
  · have e1 : pickE l = 8 := by unfold pickE; rw [if_pos hp]
    have e2 : pickV l = 0 := by unfold pickV; rw [if_pos hp]
    have t0 : ((len : Int) == 0) = true := by have := HLN.out; simp; omega
    have PK := hid (pick_any gb r l _ G1.out HGR.out)
    rw [e1, e2] at PK
    have e3 : pickM l = l := by unfold pickM; rw [if_pos hp]
    rw [e3] at PK ⊢
    clear e1 e2 e3 hp
    go_enter Try.func11, Try.ntmps11
    go_wp2_with fail
    refine PK.out.mono ?_
    rintro e w2 ⟨rfl, g2, t2⟩
    have BO : Hid (Both w gb r l (.slice a len cap) w2) := both_grp HG.out HS.out B1.out g2 t2 (.inl rfl) (Reads.self (t2.holdsS H1.out (fun x o e => by have := HS.out x o e; omega)) (Below.refl _ _))
    clear g2 t2
    go_wp2
    go_ret2
    exact ⟨_, rfl, BO.out⟩
  · have t0 : ((len : Int) == 0) = false := by have := HLN.out; simp; omega
    go_enter Try.func11, Try.ntmps11
    go_wp2_with fail
    refine (pick_any gb r l _ G1.out HGR.out).mono ?_
    rintro e w2 ⟨rfl, g2, t2⟩
    have G2 := hid g2
    have T2 := hid t2
    have H2 := hid (t2.holdsS H1.out (fun x o e => by have := HS.out x o e; omega))
    have te : (pickV l == pickV l) = true := by simp
    have tf : (pickE l == pickE l) = true := by simp
    clear g2 t2 hp
    go_wp2_with fail
    refine (rpick_any a len cap l w2 H2.out HGR.out).mono ?_
    rintro e w3 ⟨v, rfl, R3⟩
    have BO := hid (both_grp HG.out HS.out B1.out G2.out T2.out (.inl rfl) R3)
    clear R3
    go_wp2
    go_ret2
    exact ⟨_, rfl, BO.out⟩

end

end Go.Proofs.Ytdenhpclopjjgaa
