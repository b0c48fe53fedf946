/-
  Contracts of command: the reader takes a number.
  Contracts of command: the reader's int64, int, upTo.
  Contracts of command: the reader's place; two numbers.
  Contracts of furlongref10: a number is read.
  Contracts of furlongref10: a count, a number up to another.
  Contracts of furlongref10: what was read, to its end.
  What a list of things answers that are read one behind another: plain mathematics.
  Contracts of command: the reader's list of numbers.
  Contracts of command: the reader's list of numbers, gathered.
  Contracts of command: the reader's queue and node.
-/
import Derived.Test.YthkbddnkcljjpaaMCA
import Derived.Test.YthkbddnkcljjpaaSH
import Derived.Test.YthkbddnkcljjpaaCS
import Derived.Stop.RegionWithIn
import Derived.Shelf.Abstract
import Derived.Shelf.RegionOpen
import Derived.TacticsInMore
import Derived.LoopNIn
import Derived.LoopIn
import Derived.Maps.AppendAt
namespace Go.Proofs.Ythkbddnkcljjpaa
open Go.RowKit Go.Deep
set_option linter.unusedVariables false
set_option linter.unusedSimpArgs false

/-- The reader's cells. -/
def RdC (W : World) (p : Nat) (b : Value) (at' er : Int) : Prop := (W.cell? ⟨p, 0, none⟩ = some b ∧ W.cell? ⟨p, 1, none⟩ = some (.int .i64 at') ∧ W.cell? ⟨p, 2, none⟩ = some (.int .i64 er)) ∧ W.frozen? ⟨p, 0, none⟩ = false ∧ W.frozen? ⟨p, 1, none⟩ = false ∧ W.frozen? ⟨p, 2, none⟩ = false
/-- What a reader's method leaves: all blocks but the reader's. -/
def RK (p : Nat) (W W' : World) : Prop := WK p (.slice none 0 0) W W' (.slice none 0 0)
theorem RK.refl (p : Nat) (W : World) : RK p W W := WK.refl _ _ _
theorem RK.trans {p : Nat} {A B C : World} (h : RK p A B) (k : RK p B C) : RK p A C := WK.trans h k
theorem RK.holds {p : Nat} {A B : World} (h : RK p A B) {a : Option Addr} {n c : Nat} {l : List Int} (hl : HoldsB A a n c l) (hne : ∀ b o, a = some ⟨b, o, none⟩ → 0 < n → b ≠ p) : HoldsB B a n c l := by
  obtain ⟨h1, h2, h3, h4, h5, h6, h7⟩ := hl
  refine ⟨h1, h2, h3, h4, h5, h6, fun hp => ?_⟩
  obtain ⟨b, o, e, hc⟩ := h7 hp
  exact ⟨b, o, e, fun j hj => h.cell (hc j hj) (hne b o e hp) (by intro e; cases e)⟩
theorem RK.setCell (p j : Nat) (u : Value) (A : World) : RK p A (A.setCell ⟨p, j, none⟩ u) :=
  ⟨rfl, rfl, rfl, by simp, fun b _ h1 _ => Below.heap_setCell A _ _ b h1, fun _ e => .inl e⟩
set_option maxRecDepth 100000 in
set_option maxHeartbeats 4000000 in
theorem take64_any (p : Nat) (a : Option Addr) (n c : Nat) (l : List Int) (A : Int) (w : World) (h : RdC w p (.slice a n c) A 0) (hl : HoldsB w a n c l) (hp : I64 A) (hne : ∀ b o, a = some ⟨b, o, none⟩ → 0 < n → b ≠ p) :
    Calls Try.prog 107 #[.pointer (some ⟨p, 0, none⟩), .func (.func 108) #[] #[]] w fun e w' => e = .returned (.int .i64 (zag (rd l A).1)) ∧ RdC w' p (.slice a n c) (rd l A).2.1 (rd l A).2.2 ∧ RK p w w' := by
  have HL := hid hl
  have HR := hid (fun W (H : HoldsB W a n c l) => readint_any a n c l A W H hp)
  obtain ⟨⟨y0, y1, y2⟩, f0, f1, f2⟩ := h
  clear hl hp
  go_enter Try.func107, Try.ntmps107
  go_upto_region 3 with fail
  refine wp_region_held_drew (S := fun W => W.cell? ⟨p, 0, none⟩ = some (.slice a n c)) (by kernel_rfl) (by simpa using y0) (fun hHeld => ?_)
  have K0 : Hid (RK p w w.drew) := WK.of_below (Below.drew (Below.refl _ _))
  have HD := hid (HL.out.below (Below.drew (Below.refl _ _)))
  replace y0 : w.drew.cell? ⟨p, 0, none⟩ = some (.slice a n c) := by simpa using y0
  replace y1 : w.drew.cell? ⟨p, 1, none⟩ = some (.int .i64 A) := by simpa using y1
  replace y2 : w.drew.cell? ⟨p, 2, none⟩ = some (.int .i64 0) := by simpa using y2
  replace f0 : w.drew.frozen? ⟨p, 0, none⟩ = false := by simpa using f0
  replace f1 : w.drew.frozen? ⟨p, 1, none⟩ = false := by simpa using f1
  replace f2 : w.drew.frozen? ⟨p, 2, none⟩ = false := by simpa using f2
  clear HL
  generalize w.drew = wd at *
  refine wpAnyH_take (i := 0) (v := .pointer (some ⟨p, 0, none⟩)) rfl (by kernel_rfl) (by kernel_rfl) (by kernel_rfl) (fun _ _ _ h => h) (Or.inl ⟨by rfl, ?_⟩) (by assumption) ?_
  · (intro w hSw; (try dsimp only at hSw); go_simp)
  (try simp only [Act.put, List.getElem_toArray, List.getElem_cons_succ, List.getElem_cons_zero, List.setIfInBounds_toArray, List.set_cons_zero, List.set_cons_succ])
  refine wpAnyH_take (i := 1) (v := .pointer (some ⟨p, 0, none⟩)) rfl (by kernel_rfl) (by kernel_rfl) (by kernel_rfl) (fun _ _ _ h => h) (Or.inl ⟨by rfl, ?_⟩) (by assumption) ?_
  · (intro w hSw; (try dsimp only at hSw); go_simp)
  (try simp only [Act.put, List.getElem_toArray, List.getElem_cons_succ, List.getElem_cons_zero, List.setIfInBounds_toArray, List.set_cons_zero, List.set_cons_succ])
  refine wpAnyH_take (i := 2) (v := .func (.func 108) #[] #[]) rfl (by kernel_rfl) (by kernel_rfl) (by kernel_rfl) (fun _ _ _ h => h) (Or.inl ⟨by rfl, ?_⟩) (by assumption) ?_
  · (intro w hSw; (try dsimp only at hSw); go_simp)
  (try simp only [Act.put, List.getElem_toArray, List.getElem_cons_succ, List.getElem_cons_zero, List.setIfInBounds_toArray, List.set_cons_zero, List.set_cons_succ])
  refine wpAnyH_take (i := 3) (v := .pointer (some ⟨p, 0, none⟩)) rfl (by kernel_rfl) (by kernel_rfl) (by kernel_rfl) (fun _ _ _ h => h) (Or.inl ⟨by rfl, ?_⟩) (by assumption) ?_
  · (intro w hSw; (try dsimp only at hSw); go_simp)
  (try simp only [Act.put, List.getElem_toArray, List.getElem_cons_succ, List.getElem_cons_zero, List.setIfInBounds_toArray, List.set_cons_zero, List.set_cons_succ])
  refine wpAnyH_take (i := 4) (v := .pointer (some ⟨p, 0, none⟩)) rfl (by kernel_rfl) (by kernel_rfl) (by kernel_rfl) (fun _ _ _ h => h) (Or.inl ⟨by rfl, ?_⟩) (by assumption) ?_
  · (intro w hSw; (try dsimp only at hSw); go_simp)
  (try simp only [Act.put, List.getElem_toArray, List.getElem_cons_succ, List.getElem_cons_zero, List.setIfInBounds_toArray, List.set_cons_zero, List.set_cons_succ])
  refine wpAnyH_take (i := 5) (v := .pointer (some ⟨p, 0, none⟩)) rfl (by kernel_rfl) (by kernel_rfl) (by kernel_rfl) (fun _ _ _ h => h) (Or.inl ⟨by rfl, ?_⟩) (by assumption) ?_
  · (intro w hSw; (try dsimp only at hSw); go_simp)
  (try simp only [Act.put, List.getElem_toArray, List.getElem_cons_succ, List.getElem_cons_zero, List.setIfInBounds_toArray, List.set_cons_zero, List.set_cons_succ])
  refine wpAnyH_take (i := 6) (v := .slice a n c) rfl (by kernel_rfl) (by kernel_rfl) (by kernel_rfl) (fun _ _ _ h => h) (Or.inl ⟨by rfl, ?_⟩) (by assumption) ?_
  · (intro w hSw; (try dsimp only at hSw); go_simp)
  (try simp only [Act.put, List.getElem_toArray, List.getElem_cons_succ, List.getElem_cons_zero, List.setIfInBounds_toArray, List.set_cons_zero, List.set_cons_succ])
  refine wpAnyH_take (i := 7) (v := .pointer (some ⟨p, 0, none⟩)) rfl (by kernel_rfl) (by kernel_rfl) (by kernel_rfl) (fun _ _ _ h => h) (Or.inl ⟨by rfl, ?_⟩) (by assumption) ?_
  · (intro w hSw; (try dsimp only at hSw); go_simp)
  (try simp only [Act.put, List.getElem_toArray, List.getElem_cons_succ, List.getElem_cons_zero, List.setIfInBounds_toArray, List.set_cons_zero, List.set_cons_succ])
  refine wpAnyH_take (i := 8) (v := .pointer (some ⟨p, 0, none⟩)) rfl (by kernel_rfl) (by kernel_rfl) (by kernel_rfl) (fun _ _ _ h => h) (Or.inl ⟨by rfl, ?_⟩) (by assumption) ?_
  · (intro w hSw; (try dsimp only at hSw); go_simp)
  (try simp only [Act.put, List.getElem_toArray, List.getElem_cons_succ, List.getElem_cons_zero, List.setIfInBounds_toArray, List.set_cons_zero, List.set_cons_succ])
  refine wpAnyH_take (i := 9) (v := .pointer (some ⟨p, 1, none⟩)) rfl (by kernel_rfl) (by kernel_rfl) (by kernel_rfl) (fun _ _ _ h => h) (Or.inl ⟨by rfl, ?_⟩) (by assumption) ?_
  · (intro w hSw; (try dsimp only at hSw); go_simp)
  (try simp only [Act.put, List.getElem_toArray, List.getElem_cons_succ, List.getElem_cons_zero, List.setIfInBounds_toArray, List.set_cons_zero, List.set_cons_succ])
  refine wpAnyH_ready (rs := [10]) (by kernel_rfl) (by simp) ?_
  refine AllReadyH.cons rfl (fun K hK => ?_) AllReadyH.nil
  go_simp
  refine hK.out _ _ y0 (fun hHeld => ?_)
  clear hK K
  (try simp only [Act.put, List.getElem_toArray, List.getElem_cons_succ, List.getElem_cons_zero, List.setIfInBounds_toArray, List.set_cons_zero, List.set_cons_succ])
  refine wpAnyH_ready (rs := [11]) (by kernel_rfl) (by simp) ?_
  refine AllReadyH.cons rfl (fun K hK => ?_) AllReadyH.nil
  go_simp
  with_reducible refine (HR.out _ HD.out).mono ?_
  rintro e W1 ⟨rfl, rfl⟩
  refine hK.out _ _ y0 (fun hHeld => ?_)
  clear hK K
  (try simp only [Act.put, List.getElem_toArray, List.getElem_cons_succ, List.getElem_cons_zero, List.setIfInBounds_toArray, List.set_cons_zero, List.set_cons_succ])
  generalize hA : (rd l A).2.1 = A1 at *
  generalize hE : (rd l A).2.2 = E1 at *
  generalize hX : zag (rd l A).1 = X at *
  have EA := hid hA
  have EE := hid hE
  have EX := hid hX
  clear HR hX hA hE
  refine wpAnyH_take (i := 12) (v := .tuple #[.int .i64 X, .int .i64 A1, .int .i64 E1]) rfl (by kernel_rfl) (by kernel_rfl) (by kernel_rfl) (fun _ _ _ h => h) (Or.inl ⟨by rfl, ?_⟩) (by assumption) ?_
  · (intro w hSw; (try dsimp only at hSw); go_simp)
  (try simp only [Act.put, List.getElem_toArray, List.getElem_cons_succ, List.getElem_cons_zero, List.setIfInBounds_toArray, List.set_cons_zero, List.set_cons_succ])
  refine wpAnyH_take (i := 13) (v := .int .i64 X) rfl (by kernel_rfl) (by kernel_rfl) (by kernel_rfl) (fun _ _ _ h => h) (Or.inl ⟨by rfl, ?_⟩) (by assumption) ?_
  · (intro w hSw; (try dsimp only at hSw); go_simp)
  (try simp only [Act.put, List.getElem_toArray, List.getElem_cons_succ, List.getElem_cons_zero, List.setIfInBounds_toArray, List.set_cons_zero, List.set_cons_succ])
  refine wpAnyH_take (i := 14) (v := .int .i64 A1) rfl (by kernel_rfl) (by kernel_rfl) (by kernel_rfl) (fun _ _ _ h => h) (Or.inl ⟨by rfl, ?_⟩) (by assumption) ?_
  · (intro w hSw; (try dsimp only at hSw); go_simp)
  (try simp only [Act.put, List.getElem_toArray, List.getElem_cons_succ, List.getElem_cons_zero, List.setIfInBounds_toArray, List.set_cons_zero, List.set_cons_succ])
  refine wpAnyH_take (i := 15) (v := .int .i64 E1) rfl (by kernel_rfl) (by kernel_rfl) (by kernel_rfl) (fun _ _ _ h => h) (Or.inl ⟨by rfl, ?_⟩) (by assumption) ?_
  · (intro w hSw; (try dsimp only at hSw); go_simp)
  (try simp only [Act.put, List.getElem_toArray, List.getElem_cons_succ, List.getElem_cons_zero, List.setIfInBounds_toArray, List.set_cons_zero, List.set_cons_succ])
  refine wpAnyH_ready (rs := [16]) (by kernel_rfl) (by simp) ?_
  refine AllReadyH.cons rfl (fun K hK => ?_) AllReadyH.nil
  go_simp
  refine hK.out _ _ y0 (fun hHeld => ?_)
  clear hK K
  (try simp only [Act.put, List.getElem_toArray, List.getElem_cons_succ, List.getElem_cons_zero, List.setIfInBounds_toArray, List.set_cons_zero, List.set_cons_succ])
  refine wpAnyH_take (i := 17) (v := .pointer (some ⟨p, 0, none⟩)) rfl (by kernel_rfl) (by kernel_rfl) (by kernel_rfl) (fun _ _ _ h => h) (Or.inl ⟨by rfl, ?_⟩) (by assumption) ?_
  · (intro w hSw; (try dsimp only at hSw); go_simp)
  (try simp only [Act.put, List.getElem_toArray, List.getElem_cons_succ, List.getElem_cons_zero, List.setIfInBounds_toArray, List.set_cons_zero, List.set_cons_succ])
  refine wpAnyH_take (i := 18) (v := .pointer (some ⟨p, 1, none⟩)) rfl (by kernel_rfl) (by kernel_rfl) (by kernel_rfl) (fun _ _ _ h => h) (Or.inl ⟨by rfl, ?_⟩) (by assumption) ?_
  · (intro w hSw; (try dsimp only at hSw); go_simp)
  (try simp only [Act.put, List.getElem_toArray, List.getElem_cons_succ, List.getElem_cons_zero, List.setIfInBounds_toArray, List.set_cons_zero, List.set_cons_succ])
  refine wpAnyH_ready (rs := [19]) (by kernel_rfl) (by simp) ?_
  refine AllReadyH.cons rfl (fun K hK => ?_) AllReadyH.nil
  go_simp
  refine hK.out _ _ (by simpa [go_sem] using y0) (fun hHeld => ?_)
  clear hK K
  (try simp only [Act.put, List.getElem_toArray, List.getElem_cons_succ, List.getElem_cons_zero, List.setIfInBounds_toArray, List.set_cons_zero, List.set_cons_succ])
  have y2b : (wd.setCell ⟨p, 1, none⟩ (Value.int .i64 A1)).cell? ⟨p, 2, none⟩ = some (.int .i64 0) := by simpa [go_sem] using y2
  have f2b : (wd.setCell ⟨p, 1, none⟩ (Value.int .i64 A1)).frozen? ⟨p, 2, none⟩ = false := by simpa [go_sem] using f2
  refine wpAnyH_take (i := 20) (v := .pointer (some ⟨p, 0, none⟩)) rfl (by kernel_rfl) (by kernel_rfl) (by kernel_rfl) (fun _ _ _ h => h) (Or.inl ⟨by rfl, ?_⟩) (by assumption) ?_
  · (intro w hSw; (try dsimp only at hSw); go_simp)
  (try simp only [Act.put, List.getElem_toArray, List.getElem_cons_succ, List.getElem_cons_zero, List.setIfInBounds_toArray, List.set_cons_zero, List.set_cons_succ])
  refine wpAnyH_take (i := 21) (v := .pointer (some ⟨p, 2, none⟩)) rfl (by kernel_rfl) (by kernel_rfl) (by kernel_rfl) (fun _ _ _ h => h) (Or.inl ⟨by rfl, ?_⟩) (by assumption) ?_
  · (intro w hSw; (try dsimp only at hSw); go_simp)
  (try simp only [Act.put, List.getElem_toArray, List.getElem_cons_succ, List.getElem_cons_zero, List.setIfInBounds_toArray, List.set_cons_zero, List.set_cons_succ])
  refine wpAnyH_ready (rs := [22]) (by kernel_rfl) (by simp) ?_
  refine AllReadyH.cons rfl (fun K hK => ?_) AllReadyH.nil
  go_simp
  refine hK.out _ _ (by simpa [go_sem] using y0) (fun hHeld => ?_)
  clear hK K
  (try simp only [Act.put, List.getElem_toArray, List.getElem_cons_succ, List.getElem_cons_zero, List.setIfInBounds_toArray, List.set_cons_zero, List.set_cons_succ])
  refine wpAnyH_done (by kernel_rfl) ?_ _
  clear hHeld
  go_wp2_with fail
  go_ret
  refine ⟨by rw [EX.out]; rfl, ⟨⟨?_, ?_, ?_⟩, ?_, ?_, ?_⟩, K0.out.trans ((RK.setCell p 1 _ _).trans (RK.setCell p 2 _ _))⟩ <;> simp [go_sem, y0, y1, y2, f0, f1, f2, EA.out, EE.out]

set_option maxRecDepth 100000 in
set_option maxHeartbeats 4000000 in
theorem take64_no (p : Nat) (b : Value) (A E : Int) (w : World) (h : RdC w p b A E) (hE : E ≠ 0) :
    Calls Try.prog 107 #[.pointer (some ⟨p, 0, none⟩), .func (.func 108) #[] #[]] w fun e w' => e = .returned (.int .i64 0) ∧ w = w' := by
  obtain ⟨⟨y0, y1, y2⟩, f0, f1, f2⟩ := h
  go_enter Try.func107, Try.ntmps107
  go_wp2_with fail
  go_ret
  exact ⟨rfl, rfl⟩
set_option maxRecDepth 100000 in
set_option maxHeartbeats 4000000 in
theorem takeu_any (p : Nat) (a : Option Addr) (n c : Nat) (l : List Int) (A : Int) (w : World) (h : RdC w p (.slice a n c) A 0) (hl : HoldsB w a n c l) (hp : I64 A) (hne : ∀ b o, a = some ⟨b, o, none⟩ → 0 < n → b ≠ p) :
    Calls Try.prog 123 #[.pointer (some ⟨p, 0, none⟩), .func (.func 121) #[] #[]] w fun e w' => e = .returned (.int .u64 ((rd l A).1)) ∧ RdC w' p (.slice a n c) (rd l A).2.1 (rd l A).2.2 ∧ RK p w w' := by
  have HL := hid hl
  have HR := hid (fun W (H : HoldsB W a n c l) => read_any a n c l A W H hp)
  obtain ⟨⟨y0, y1, y2⟩, f0, f1, f2⟩ := h
  clear hl hp
  go_enter Try.func123, Try.ntmps123
  go_upto_region 3 with fail
  refine wp_region_held_drew (S := fun W => W.cell? ⟨p, 0, none⟩ = some (.slice a n c)) (by kernel_rfl) (by simpa using y0) (fun hHeld => ?_)
  have K0 : Hid (RK p w w.drew) := WK.of_below (Below.drew (Below.refl _ _))
  have HD := hid (HL.out.below (Below.drew (Below.refl _ _)))
  replace y0 : w.drew.cell? ⟨p, 0, none⟩ = some (.slice a n c) := by simpa using y0
  replace y1 : w.drew.cell? ⟨p, 1, none⟩ = some (.int .i64 A) := by simpa using y1
  replace y2 : w.drew.cell? ⟨p, 2, none⟩ = some (.int .i64 0) := by simpa using y2
  replace f0 : w.drew.frozen? ⟨p, 0, none⟩ = false := by simpa using f0
  replace f1 : w.drew.frozen? ⟨p, 1, none⟩ = false := by simpa using f1
  replace f2 : w.drew.frozen? ⟨p, 2, none⟩ = false := by simpa using f2
  clear HL
  generalize w.drew = wd at *
  refine wpAnyH_take (i := 0) (v := .pointer (some ⟨p, 0, none⟩)) rfl (by kernel_rfl) (by kernel_rfl) (by kernel_rfl) (fun _ _ _ h => h) (Or.inl ⟨by rfl, ?_⟩) (by assumption) ?_
  · (intro w hSw; (try dsimp only at hSw); go_simp)
  (try simp only [Act.put, List.getElem_toArray, List.getElem_cons_succ, List.getElem_cons_zero, List.setIfInBounds_toArray, List.set_cons_zero, List.set_cons_succ])
  refine wpAnyH_take (i := 1) (v := .pointer (some ⟨p, 0, none⟩)) rfl (by kernel_rfl) (by kernel_rfl) (by kernel_rfl) (fun _ _ _ h => h) (Or.inl ⟨by rfl, ?_⟩) (by assumption) ?_
  · (intro w hSw; (try dsimp only at hSw); go_simp)
  (try simp only [Act.put, List.getElem_toArray, List.getElem_cons_succ, List.getElem_cons_zero, List.setIfInBounds_toArray, List.set_cons_zero, List.set_cons_succ])
  refine wpAnyH_take (i := 2) (v := .func (.func 121) #[] #[]) rfl (by kernel_rfl) (by kernel_rfl) (by kernel_rfl) (fun _ _ _ h => h) (Or.inl ⟨by rfl, ?_⟩) (by assumption) ?_
  · (intro w hSw; (try dsimp only at hSw); go_simp)
  (try simp only [Act.put, List.getElem_toArray, List.getElem_cons_succ, List.getElem_cons_zero, List.setIfInBounds_toArray, List.set_cons_zero, List.set_cons_succ])
  refine wpAnyH_take (i := 3) (v := .pointer (some ⟨p, 0, none⟩)) rfl (by kernel_rfl) (by kernel_rfl) (by kernel_rfl) (fun _ _ _ h => h) (Or.inl ⟨by rfl, ?_⟩) (by assumption) ?_
  · (intro w hSw; (try dsimp only at hSw); go_simp)
  (try simp only [Act.put, List.getElem_toArray, List.getElem_cons_succ, List.getElem_cons_zero, List.setIfInBounds_toArray, List.set_cons_zero, List.set_cons_succ])
  refine wpAnyH_take (i := 4) (v := .pointer (some ⟨p, 0, none⟩)) rfl (by kernel_rfl) (by kernel_rfl) (by kernel_rfl) (fun _ _ _ h => h) (Or.inl ⟨by rfl, ?_⟩) (by assumption) ?_
  · (intro w hSw; (try dsimp only at hSw); go_simp)
  (try simp only [Act.put, List.getElem_toArray, List.getElem_cons_succ, List.getElem_cons_zero, List.setIfInBounds_toArray, List.set_cons_zero, List.set_cons_succ])
  refine wpAnyH_take (i := 5) (v := .pointer (some ⟨p, 0, none⟩)) rfl (by kernel_rfl) (by kernel_rfl) (by kernel_rfl) (fun _ _ _ h => h) (Or.inl ⟨by rfl, ?_⟩) (by assumption) ?_
  · (intro w hSw; (try dsimp only at hSw); go_simp)
  (try simp only [Act.put, List.getElem_toArray, List.getElem_cons_succ, List.getElem_cons_zero, List.setIfInBounds_toArray, List.set_cons_zero, List.set_cons_succ])
  refine wpAnyH_take (i := 6) (v := .slice a n c) rfl (by kernel_rfl) (by kernel_rfl) (by kernel_rfl) (fun _ _ _ h => h) (Or.inl ⟨by rfl, ?_⟩) (by assumption) ?_
  · (intro w hSw; (try dsimp only at hSw); go_simp)
  (try simp only [Act.put, List.getElem_toArray, List.getElem_cons_succ, List.getElem_cons_zero, List.setIfInBounds_toArray, List.set_cons_zero, List.set_cons_succ])
  refine wpAnyH_take (i := 7) (v := .pointer (some ⟨p, 0, none⟩)) rfl (by kernel_rfl) (by kernel_rfl) (by kernel_rfl) (fun _ _ _ h => h) (Or.inl ⟨by rfl, ?_⟩) (by assumption) ?_
  · (intro w hSw; (try dsimp only at hSw); go_simp)
  (try simp only [Act.put, List.getElem_toArray, List.getElem_cons_succ, List.getElem_cons_zero, List.setIfInBounds_toArray, List.set_cons_zero, List.set_cons_succ])
  refine wpAnyH_take (i := 8) (v := .pointer (some ⟨p, 0, none⟩)) rfl (by kernel_rfl) (by kernel_rfl) (by kernel_rfl) (fun _ _ _ h => h) (Or.inl ⟨by rfl, ?_⟩) (by assumption) ?_
  · (intro w hSw; (try dsimp only at hSw); go_simp)
  (try simp only [Act.put, List.getElem_toArray, List.getElem_cons_succ, List.getElem_cons_zero, List.setIfInBounds_toArray, List.set_cons_zero, List.set_cons_succ])
  refine wpAnyH_take (i := 9) (v := .pointer (some ⟨p, 1, none⟩)) rfl (by kernel_rfl) (by kernel_rfl) (by kernel_rfl) (fun _ _ _ h => h) (Or.inl ⟨by rfl, ?_⟩) (by assumption) ?_
  · (intro w hSw; (try dsimp only at hSw); go_simp)
  (try simp only [Act.put, List.getElem_toArray, List.getElem_cons_succ, List.getElem_cons_zero, List.setIfInBounds_toArray, List.set_cons_zero, List.set_cons_succ])
  refine wpAnyH_ready (rs := [10]) (by kernel_rfl) (by simp) ?_
  refine AllReadyH.cons rfl (fun K hK => ?_) AllReadyH.nil
  go_simp
  refine hK.out _ _ y0 (fun hHeld => ?_)
  clear hK K
  (try simp only [Act.put, List.getElem_toArray, List.getElem_cons_succ, List.getElem_cons_zero, List.setIfInBounds_toArray, List.set_cons_zero, List.set_cons_succ])
  refine wpAnyH_ready (rs := [11]) (by kernel_rfl) (by simp) ?_
  refine AllReadyH.cons rfl (fun K hK => ?_) AllReadyH.nil
  go_simp
  with_reducible refine (HR.out _ HD.out).mono ?_
  rintro e W1 ⟨rfl, rfl⟩
  refine hK.out _ _ y0 (fun hHeld => ?_)
  clear hK K
  (try simp only [Act.put, List.getElem_toArray, List.getElem_cons_succ, List.getElem_cons_zero, List.setIfInBounds_toArray, List.set_cons_zero, List.set_cons_succ])
  generalize hA : (rd l A).2.1 = A1 at *
  generalize hE : (rd l A).2.2 = E1 at *
  generalize hX : (rd l A).1 = X at *
  have EA := hid hA
  have EE := hid hE
  have EX := hid hX
  clear HR hX hA hE
  refine wpAnyH_take (i := 12) (v := .tuple #[.int .u64 X, .int .i64 A1, .int .i64 E1]) rfl (by kernel_rfl) (by kernel_rfl) (by kernel_rfl) (fun _ _ _ h => h) (Or.inl ⟨by rfl, ?_⟩) (by assumption) ?_
  · (intro w hSw; (try dsimp only at hSw); go_simp)
  (try simp only [Act.put, List.getElem_toArray, List.getElem_cons_succ, List.getElem_cons_zero, List.setIfInBounds_toArray, List.set_cons_zero, List.set_cons_succ])
  refine wpAnyH_take (i := 13) (v := .int .u64 X) rfl (by kernel_rfl) (by kernel_rfl) (by kernel_rfl) (fun _ _ _ h => h) (Or.inl ⟨by rfl, ?_⟩) (by assumption) ?_
  · (intro w hSw; (try dsimp only at hSw); go_simp)
  (try simp only [Act.put, List.getElem_toArray, List.getElem_cons_succ, List.getElem_cons_zero, List.setIfInBounds_toArray, List.set_cons_zero, List.set_cons_succ])
  refine wpAnyH_take (i := 14) (v := .int .i64 A1) rfl (by kernel_rfl) (by kernel_rfl) (by kernel_rfl) (fun _ _ _ h => h) (Or.inl ⟨by rfl, ?_⟩) (by assumption) ?_
  · (intro w hSw; (try dsimp only at hSw); go_simp)
  (try simp only [Act.put, List.getElem_toArray, List.getElem_cons_succ, List.getElem_cons_zero, List.setIfInBounds_toArray, List.set_cons_zero, List.set_cons_succ])
  refine wpAnyH_take (i := 15) (v := .int .i64 E1) rfl (by kernel_rfl) (by kernel_rfl) (by kernel_rfl) (fun _ _ _ h => h) (Or.inl ⟨by rfl, ?_⟩) (by assumption) ?_
  · (intro w hSw; (try dsimp only at hSw); go_simp)
  (try simp only [Act.put, List.getElem_toArray, List.getElem_cons_succ, List.getElem_cons_zero, List.setIfInBounds_toArray, List.set_cons_zero, List.set_cons_succ])
  refine wpAnyH_ready (rs := [16]) (by kernel_rfl) (by simp) ?_
  refine AllReadyH.cons rfl (fun K hK => ?_) AllReadyH.nil
  go_simp
  refine hK.out _ _ y0 (fun hHeld => ?_)
  clear hK K
  (try simp only [Act.put, List.getElem_toArray, List.getElem_cons_succ, List.getElem_cons_zero, List.setIfInBounds_toArray, List.set_cons_zero, List.set_cons_succ])
  refine wpAnyH_take (i := 17) (v := .pointer (some ⟨p, 0, none⟩)) rfl (by kernel_rfl) (by kernel_rfl) (by kernel_rfl) (fun _ _ _ h => h) (Or.inl ⟨by rfl, ?_⟩) (by assumption) ?_
  · (intro w hSw; (try dsimp only at hSw); go_simp)
  (try simp only [Act.put, List.getElem_toArray, List.getElem_cons_succ, List.getElem_cons_zero, List.setIfInBounds_toArray, List.set_cons_zero, List.set_cons_succ])
  refine wpAnyH_take (i := 18) (v := .pointer (some ⟨p, 1, none⟩)) rfl (by kernel_rfl) (by kernel_rfl) (by kernel_rfl) (fun _ _ _ h => h) (Or.inl ⟨by rfl, ?_⟩) (by assumption) ?_
  · (intro w hSw; (try dsimp only at hSw); go_simp)
  (try simp only [Act.put, List.getElem_toArray, List.getElem_cons_succ, List.getElem_cons_zero, List.setIfInBounds_toArray, List.set_cons_zero, List.set_cons_succ])
  refine wpAnyH_ready (rs := [19]) (by kernel_rfl) (by simp) ?_
  refine AllReadyH.cons rfl (fun K hK => ?_) AllReadyH.nil
  go_simp
  refine hK.out _ _ (by simpa [go_sem] using y0) (fun hHeld => ?_)
  clear hK K
  (try simp only [Act.put, List.getElem_toArray, List.getElem_cons_succ, List.getElem_cons_zero, List.setIfInBounds_toArray, List.set_cons_zero, List.set_cons_succ])
  have y2b : (wd.setCell ⟨p, 1, none⟩ (Value.int .i64 A1)).cell? ⟨p, 2, none⟩ = some (.int .i64 0) := by simpa [go_sem] using y2
  have f2b : (wd.setCell ⟨p, 1, none⟩ (Value.int .i64 A1)).frozen? ⟨p, 2, none⟩ = false := by simpa [go_sem] using f2
  refine wpAnyH_take (i := 20) (v := .pointer (some ⟨p, 0, none⟩)) rfl (by kernel_rfl) (by kernel_rfl) (by kernel_rfl) (fun _ _ _ h => h) (Or.inl ⟨by rfl, ?_⟩) (by assumption) ?_
  · (intro w hSw; (try dsimp only at hSw); go_simp)
  (try simp only [Act.put, List.getElem_toArray, List.getElem_cons_succ, List.getElem_cons_zero, List.setIfInBounds_toArray, List.set_cons_zero, List.set_cons_succ])
  refine wpAnyH_take (i := 21) (v := .pointer (some ⟨p, 2, none⟩)) rfl (by kernel_rfl) (by kernel_rfl) (by kernel_rfl) (fun _ _ _ h => h) (Or.inl ⟨by rfl, ?_⟩) (by assumption) ?_
  · (intro w hSw; (try dsimp only at hSw); go_simp)
  (try simp only [Act.put, List.getElem_toArray, List.getElem_cons_succ, List.getElem_cons_zero, List.setIfInBounds_toArray, List.set_cons_zero, List.set_cons_succ])
  refine wpAnyH_ready (rs := [22]) (by kernel_rfl) (by simp) ?_
  refine AllReadyH.cons rfl (fun K hK => ?_) AllReadyH.nil
  go_simp
  refine hK.out _ _ (by simpa [go_sem] using y0) (fun hHeld => ?_)
  clear hK K
  (try simp only [Act.put, List.getElem_toArray, List.getElem_cons_succ, List.getElem_cons_zero, List.setIfInBounds_toArray, List.set_cons_zero, List.set_cons_succ])
  refine wpAnyH_done (by kernel_rfl) ?_ _
  clear hHeld
  go_wp2_with fail
  go_ret
  refine ⟨by rw [EX.out]; rfl, ⟨⟨?_, ?_, ?_⟩, ?_, ?_, ?_⟩, K0.out.trans ((RK.setCell p 1 _ _).trans (RK.setCell p 2 _ _))⟩ <;> simp [go_sem, y0, y1, y2, f0, f1, f2, EA.out, EE.out]

set_option maxRecDepth 100000 in
set_option maxHeartbeats 4000000 in
theorem takeu_no (p : Nat) (b : Value) (A E : Int) (w : World) (h : RdC w p b A E) (hE : E ≠ 0) :
    Calls Try.prog 123 #[.pointer (some ⟨p, 0, none⟩), .func (.func 121) #[] #[]] w fun e w' => e = .returned (.int .u64 0) ∧ w = w' := by
  obtain ⟨⟨y0, y1, y2⟩, f0, f1, f2⟩ := h
  go_enter Try.func123, Try.ntmps123
  go_wp2_with fail
  go_ret
  exact ⟨rfl, rfl⟩
end Go.Proofs.Ythkbddnkcljjpaa

namespace Go.Proofs.Ythkbddnkcljjpaa
open Go.RowKit Go.Deep
set_option linter.unusedVariables false
set_option linter.unusedSimpArgs false

/-- What a taken number answers: it, the place, the error. -/
def tkI (l : List Int) (A E : Int) : Int × Int × Int := if E = 0 then (zag (rd l A).1, (rd l A).2.1, (rd l A).2.2) else (0, A, E)
/-- What a number up to 'most' answers. -/
def upT (l : List Int) (A E most f : Int) : Int × Int × Int := if E = 0 then (if most < (rd l A).1 then (0, A, f) else rd l A) else (0, A, E)

set_option maxRecDepth 100000 in
set_option maxHeartbeats 4000000 in
theorem rint64_any (p : Nat) (a : Option Addr) (n c : Nat) (l : List Int) (A E : Int) (w : World) (h : RdC w p (.slice a n c) A E) (hl : HoldsB w a n c l) (hp : I64 A) (hne : ∀ b o, a = some ⟨b, o, none⟩ → 0 < n → b ≠ p) :
    Calls Try.prog 85 #[.pointer (some ⟨p, 0, none⟩)] w fun e w' => e = .returned (.int .i64 (tkI l A E).1) ∧ RdC w' p (.slice a n c) (tkI l A E).2.1 (tkI l A E).2.2 ∧ RK p w w' := by
  by_cases hE : E = 0
  · subst hE
    have C := hid (take64_any p a n c l A w h hl hp hne)
    have T : Hid (tkI l A 0 = (zag (rd l A).1, (rd l A).2.1, (rd l A).2.2)) := by unfold Hid tkI; rw [if_pos rfl]
    clear h hl hp hne
    go_enter Try.func85, Try.ntmps85
    go_wp2_with fail
    with_reducible refine C.out.mono ?_
    rintro e W1 ⟨rfl, h1, h2⟩
    clear C
    go_wp2_with fail
    go_ret
    rw [T.out]
    exact ⟨rfl, h1, h2⟩
  · have C := hid (take64_no p (.slice a n c) A E w h hE)
    have T : Hid (tkI l A E = (0, A, E)) := by unfold Hid tkI; rw [if_neg hE]
    have H := hid h
    clear h hl hp hne hE
    go_enter Try.func85, Try.ntmps85
    go_wp2_with fail
    with_reducible refine C.out.mono ?_
    rintro e W1 ⟨rfl, rfl⟩
    clear C
    go_wp2_with fail
    go_ret
    rw [T.out]
    exact ⟨rfl, H.out, RK.refl _ _⟩

set_option maxRecDepth 100000 in
set_option maxHeartbeats 4000000 in
theorem rint_any (p : Nat) (a : Option Addr) (n c : Nat) (l : List Int) (A E : Int) (w : World) (h : RdC w p (.slice a n c) A E) (hl : HoldsB w a n c l) (hp : I64 A) (hne : ∀ b o, a = some ⟨b, o, none⟩ → 0 < n → b ≠ p) :
    Calls Try.prog 86 #[.pointer (some ⟨p, 0, none⟩)] w fun e w' => e = .returned (.int .i64 (tkI l A E).1) ∧ RdC w' p (.slice a n c) (tkI l A E).2.1 (tkI l A E).2.2 ∧ RK p w w' := by
  have C := hid (rint64_any p a n c l A E w h hl hp hne)
  clear h hl hp hne
  go_enter Try.func86, Try.ntmps86
  go_wp2_with fail
  with_reducible refine C.out.mono ?_
  rintro e W1 ⟨rfl, h1, h2⟩
  clear C
  go_wp2_with fail
  go_ret
  exact ⟨rfl, h1, h2⟩

set_option maxRecDepth 100000 in
set_option maxHeartbeats 4000000 in
theorem upto_any (p : Nat) (a : Option Addr) (n c : Nat) (l : List Int) (A E most f : Int) (w : World) (h : RdC w p (.slice a n c) A E) (hl : HoldsB w a n c l) (hp : I64 A) (hm : 0 ≤ most) (hne : ∀ b o, a = some ⟨b, o, none⟩ → 0 < n → b ≠ p) :
    Calls Try.prog 109 #[.pointer (some ⟨p, 0, none⟩), .int .u64 most, .int .i64 f] w fun e w' => e = .returned (.int .u64 (upT l A E most f).1) ∧ RdC w' p (.slice a n c) (upT l A E most f).2.1 (upT l A E most f).2.2 ∧ RK p w w' := by
  have y1 := h.1.2.1
  by_cases hE : E = 0
  · subst hE
    have C := hid (takeu_any p a n c l A w h hl hp hne)
    by_cases hg : most < (rd l A).1
    · have T : Hid (upT l A 0 most f = (0, A, f)) := by unfold Hid upT; rw [if_pos rfl, if_pos hg]
      clear h hl hp hne
      generalize rd l A = R at *
      obtain ⟨x, B, F⟩ := R
      simp only at hg
      go_enter Try.func109, Try.ntmps109
      go_wp2_with fail
      with_reducible refine C.out.mono ?_
      rintro e W1 ⟨rfl, h1, h2⟩
      clear C y1
      obtain ⟨⟨z0, z1, z2⟩, f0, f1, f2⟩ := h1
      go_wp2_with fail
      go_ret
      rw [T.out]
      refine ⟨rfl, ⟨⟨?_, ?_, ?_⟩, ?_, ?_, ?_⟩, h2.trans ((RK.setCell p 1 _ _).trans (RK.setCell p 2 _ _))⟩ <;> simp [go_sem, z0, z1, z2, f0, f1, f2]
    · have T : Hid (upT l A 0 most f = rd l A) := by unfold Hid upT; rw [if_pos rfl, if_neg hg]
      clear h hl hp hne
      rw [T.out]
      generalize rd l A = R at *
      obtain ⟨x, B, F⟩ := R
      simp only at hg
      go_enter Try.func109, Try.ntmps109
      go_wp2_with fail
      with_reducible refine C.out.mono ?_
      rintro e W1 ⟨rfl, h1, h2⟩
      clear C y1
      go_wp2_with fail
      go_ret
      exact ⟨rfl, h1, h2⟩
  · have C := hid (takeu_no p (.slice a n c) A E w h hE)
    have T : Hid (upT l A E most f = (0, A, E)) := by unfold Hid upT; rw [if_neg hE]
    have H := hid h
    have hg : ¬ most < 0 := by omega
    clear h hl hp hne hE
    go_enter Try.func109, Try.ntmps109
    go_wp2_with fail
    with_reducible refine C.out.mono ?_
    rintro e W1 ⟨rfl, rfl⟩
    clear C y1
    go_wp2_with fail
    go_ret
    rw [T.out]
    exact ⟨rfl, H.out, RK.refl _ _⟩
end Go.Proofs.Ythkbddnkcljjpaa

namespace Go.Proofs.Ythkbddnkcljjpaa
open Go.RowKit Go.Deep
set_option linter.unusedVariables false
set_option linter.unusedSimpArgs false

theorem rd_at (l : List Int) (p : Int) (h0 : 0 ≤ p) (h1 : p ≤ l.length) : 0 ≤ (rd l p).2.1 ∧ (rd l p).2.1 ≤ l.length := by
  unfold rd
  split
  · simp only; omega
  split
  · simp only; omega
  split
  · simp only; omega
  split
  · simp only; omega
  split
  · simp only; omega
  split
  · simp only; omega
  · simp only; omega
theorem tkI_at (l : List Int) (A E : Int) (h0 : 0 ≤ A) (h1 : A ≤ l.length) : 0 ≤ (tkI l A E).2.1 ∧ (tkI l A E).2.1 ≤ l.length := by
  unfold tkI
  split
  · exact rd_at l A h0 h1
  · exact ⟨h0, h1⟩
theorem RdC.below {W W' : World} {p : Nat} {b : Value} {A E : Int} (h : RdC W p b A E) (hb : Below W.heap.size W W') : RdC W' p b A E := by
  obtain ⟨⟨h1, h2, h3⟩, f1, f2, f3⟩ := h
  exact ⟨⟨keepc hb h1, keepc hb h2, keepc hb h3⟩, keepf hb h1 f1, keepf hb h2 f2, keepf hb h3 f3⟩
theorem RdC.lt {W : World} {p : Nat} {b : Value} {A E : Int} (h : RdC W p b A E) : p < W.heap.size := World.block_lt_of_cell? _ _ h.1.1
theorem RK.keep {p : Nat} {A B : World} (h : RK p A B) {a : Addr} {u : Value} (hc : A.cell? a = some u) (h1 : a.block ≠ p) : B.cell? a = some u := h.cell hc h1 (by intro e; cases e)
theorem RK.froz {p : Nat} {A B : World} (h : RK p A B) {a : Addr} {u : Value} (hc : A.cell? a = some u) (h1 : a.block ≠ p) : B.frozen? a = A.frozen? a :=
  World.frozen?_of_block (h.block a.block (World.block_lt_of_cell? _ _ hc) h1 (by intro e; cases e))

theorem RK.set {p : Nat} {A B : World} (h : RK p A B) (q j : Nat) (u : Value) (hq : A.heap.size ≤ q) : RK p A (B.setCell ⟨q, j, none⟩ u) :=
  ⟨h.os, h.tape, h.output, by simpa using h.size, fun b hb h1 h2 => (Below.heap_setCell B _ _ b (fun e => by have : b = q := e; omega)).trans (h.block b hb h1 h2), fun _ e => .inl e⟩

set_option maxRecDepth 100000 in
set_option maxHeartbeats 4000000 in
theorem rvec_any (p : Nat) (a : Option Addr) (n c : Nat) (l : List Int) (A E : Int) (w : World) (h : RdC w p (.slice a n c) A E) (hl : HoldsB w a n c l) (h0 : 0 ≤ A) (h1 : A ≤ n) (hne : ∀ b o, a = some ⟨b, o, none⟩ → 0 < n → b ≠ p) :
    Calls Try.prog 115 #[.pointer (some ⟨p, 0, none⟩)] w fun e w' => e = .returned (.agg #[.int .i64 (tkI l A E).1, .int .i64 (tkI l (tkI l A E).2.1 (tkI l A E).2.2).1]) ∧ RdC w' p (.slice a n c) (tkI l (tkI l A E).2.1 (tkI l A E).2.2).2.1 (tkI l (tkI l A E).2.1 (tkI l A E).2.2).2.2 ∧ RK p w w' := by
  have hlen := hl.1
  have hcap := hl.2.1
  have hcm := hl.2.2.1
  have hP := h.lt
  have h2 := tkI_at l A E h0 (by omega)
  go_enter Try.func115, Try.ntmps115
  go_upto_region 1 with fail
  have B0 := (Below.refl w.heap.size w).alloc (Nat.le_refl _) (.cells #[.int .i64 0, .int .i64 0] 23)
  have H0 := hid (h.below B0)
  have L0 := hid (hl.below B0)
  have K0 : Hid (RK p w (w.alloc (.cells #[.int .i64 0, .int .i64 0] 23))) := WK.of_below B0
  have y0 : (w.alloc (.cells #[.int .i64 0, .int .i64 0] 23)).cell? ⟨w.heap.size, 0, none⟩ = some (.int .i64 0) := by simp [go_sem]
  have y1 : (w.alloc (.cells #[.int .i64 0, .int .i64 0] 23)).cell? ⟨w.heap.size, 1, none⟩ = some (.int .i64 0) := by simp [go_sem]
  have f0 : (w.alloc (.cells #[.int .i64 0, .int .i64 0] 23)).frozen? ⟨w.heap.size, 0, none⟩ = false := by simp [go_sem]
  have f1 : (w.alloc (.cells #[.int .i64 0, .int .i64 0] 23)).frozen? ⟨w.heap.size, 1, none⟩ = false := by simp [go_sem]
  have hQ : w.heap.size ≠ p := by omega
  clear h hl B0 hP
  generalize (w.alloc (.cells #[.int .i64 0, .int .i64 0] 23)) = W0 at *
  generalize hq : w.heap.size = QB at *
  have C1 := hid (rint64_any p a n c l A E W0 H0.out L0.out ⟨by omega, by omega⟩ hne)
  have S2 := hid h2
  clear h2
  have f0' := hid f0
  have f1' := hid f1
  clear f0 f1
  go_wp2_with fail
  with_reducible refine C1.out.mono ?_
  rintro e W1 ⟨rfl, r1, k1⟩
  have H1 := hid r1
  have L1 := hid (k1.holds L0.out hne)
  have g0 := hid ((k1.froz y0 hQ).trans f0'.out)
  have g1 := hid ((k1.froz y1 hQ).trans f1'.out)
  replace y0 := k1.keep y0 hQ
  replace y1 := k1.keep y1 hQ
  have K1 := hid (K0.out.trans k1)
  clear C1 r1 k1 H0 L0 K0 f0' f1'
  have C2 := hid (rint64_any p a n c l (tkI l A E).2.1 (tkI l A E).2.2 W1 H1.out L1.out ⟨by have := S2.out; omega, by have := S2.out; omega⟩ hne)
  generalize hs : tkI l A E = s1 at *
  obtain ⟨x1, A1, E1⟩ := s1
  have ES1 := hid hs
  clear hs
  go_wp2_with fail
  with_reducible refine C2.out.mono ?_
  rintro e W2 ⟨rfl, r2, k2⟩
  have H2 := hid r2
  have f0 := (k2.froz y0 hQ).trans g0.out
  have f1 := (k2.froz y1 hQ).trans g1.out
  replace y0 := k2.keep y0 hQ
  replace y1 := k2.keep y1 hQ
  have K2 := hid (K1.out.trans k2)
  clear C2 r2 k2 H1 L1 K1 g0 g1
  generalize hs : tkI l A1 E1 = s2 at *
  obtain ⟨x2, A2, E2⟩ := s2
  have ES2 := hid hs
  clear hs
  go_wp2_with fail
  have z0 : ((W2.setCell ⟨QB, 0, none⟩ (.int .i64 x1)).setCell ⟨QB, 1, none⟩ (.int .i64 x2)).cell? ⟨QB, 0, none⟩ = some (.int .i64 x1) := by simp [go_sem, y0, y1]
  have z1 : ((W2.setCell ⟨QB, 0, none⟩ (.int .i64 x1)).setCell ⟨QB, 1, none⟩ (.int .i64 x2)).cell? ⟨QB, 1, none⟩ = some (.int .i64 x2) := by simp [go_sem, y0, y1]
  refine bodyPost_ret (v := .agg #[.int .i64 x1, .int .i64 x2]) (by simp [results, Try.results115, go_sem, y0, y1, z0, z1]) rfl ?_
  rw [ES1.out]
  simp only
  rw [ES2.out]
  obtain ⟨⟨q0, q1, q2⟩, u0, u1, u2⟩ := H2.out
  have nq : QB ≠ p := hQ
  have nq' : p ≠ QB := fun e => hQ e.symm
  refine ⟨rfl, ⟨⟨?_, ?_, ?_⟩, ?_, ?_, ?_⟩, ?_⟩
  · simp [go_sem, q0, nq, nq']
  · simp [go_sem, q1, nq, nq']
  · simp [go_sem, q2, nq, nq']
  · simp [go_sem, u0]
  · simp [go_sem, u1]
  · simp [go_sem, u2]
  · exact (K2.out.set QB 0 _ (by omega)).set QB 1 _ (by omega)
end Go.Proofs.Ythkbddnkcljjpaa

namespace Go.Proofs.Ythkbddnkcljjpaa
open Go.RowKit Go.Deep
set_option linter.unusedVariables false
set_option linter.unusedSimpArgs false

set_option maxRecDepth 100000 in
set_option maxHeartbeats 4000000 in
theorem dnum_any (a : Option Addr) (n c : Nat) (l : List Int) (A E : Int) (w : World) (hl : HoldsB w a n c l) (hp : I64 A) :
    Calls Try.prog 88 #[.agg #[.slice a n c, .int .i64 A, .int .i64 E]] w fun e w' => e = .returned (.tuple #[.agg #[.slice a n c, .int .i64 (tkI l A E).2.1, .int .i64 (tkI l A E).2.2], .int .i64 (tkI l A E).1]) ∧ Below w.heap.size w w' := by
  by_cases hE : E = 0
  · subst hE
    have T : Hid (tkI l A 0 = (zag (rd l A).1, (rd l A).2.1, (rd l A).2.2)) := by unfold Hid tkI; rw [if_pos rfl]
    have G := hid (fun W (H : HoldsB W a n c l) => getwhole_any a n c l A W H hp)
    have HL := hid hl
    clear hl hp
    go_enter Try.func88, Try.ntmps88
    go_upto_region 1 with fail
    have B0 := ((Below.refl w.heap.size w).alloc (Nat.le_refl _) (.cells #[.slice a n c, .int .i64 A, .int .i64 0] 102)).alloc (by simp) (.cells #[.slice none 0 0, .int .i64 0, .int .i64 0] 102)
    have HW := hid (HL.out.below B0)
    go_wp2_with fail
    with_reducible refine (G.out _ HW.out).mono ?_
    rintro e W1 ⟨rfl, rfl⟩
    clear G HW
    generalize hA : (rd l A).2.1 = A1 at *
    generalize hX : (rd l A).2.2 = E1 at *
    generalize hZ : zag (rd l A).1 = X at *
    have EA := hid hA
    have EX := hid hX
    have EZ := hid hZ
    clear hA hX hZ
    go_wp2_with fail
    refine bodyPost_ret (v := .tuple #[.agg #[.slice a n c, .int .i64 A1, .int .i64 E1], .int .i64 X]) (by simp [results, Try.results88, go_sem]) rfl ⟨by rw [T.out], (by repeat (first | exact Below.refl _ _ | assumption | refine Below.alloc ?_ (by simp <;> omega) _ | refine Below.setCell ?_ (by simp <;> omega) _ | refine Below.drew ?_ | refine below_drewN ?_ _))⟩
  · have T : Hid (tkI l A E = (0, A, E)) := by unfold Hid tkI; rw [if_neg hE]
    clear hl hp
    go_enter Try.func88, Try.ntmps88
    go_wp2_with fail
    refine bodyPost_ret (v := .tuple #[.agg #[.slice a n c, .int .i64 A, .int .i64 E], .int .i64 0]) (by simp [results, Try.results88, go_sem]) rfl ⟨by rw [T.out], (by repeat (first | exact Below.refl _ _ | assumption | refine Below.alloc ?_ (by simp <;> omega) _ | refine Below.setCell ?_ (by simp <;> omega) _ | refine Below.drew ?_ | refine below_drewN ?_ _))⟩
end Go.Proofs.Ythkbddnkcljjpaa

namespace Go.Proofs.Ythkbddnkcljjpaa
open Go.RowKit Go.Deep
set_option linter.unusedVariables false
set_option linter.unusedSimpArgs false

theorem rd_zero (l : List Int) (p : Int) (h : (rd l p).2.2 ≠ 0) : (rd l p).1 = 0 := by
  unfold rd at *
  split
  · rfl
  split
  · rfl
  split
  · rename_i h1 h2 h3
    rw [if_neg h1, if_neg h2, if_pos h3] at h
    simp at h
  split
  · rfl
  split
  · rfl
  split
  · rfl
  · rename_i h1 h2 h3 h4 h5 h6
    rw [if_neg h1, if_neg h2, if_neg h3, if_neg h4, if_neg h5, if_neg h6] at h
    simp at h

set_option maxRecDepth 100000 in
set_option maxHeartbeats 4000000 in
theorem dupto_any (a : Option Addr) (n c : Nat) (l : List Int) (A E : Int) (most : Int) (w : World) (hl : HoldsB w a n c l) (hp : I64 A) (hm : 0 ≤ most) (hm2 : most ≤ 9223372036854775807) :
    Calls Try.prog 53 #[.agg #[.slice a n c, .int .i64 A, .int .i64 E], .int .u64 most] w fun e w' => e = .returned (.tuple #[.agg #[.slice a n c, .int .i64 (upT l A E most 4).2.1, .int .i64 (upT l A E most 4).2.2], .int .i64 (upT l A E most 4).1]) ∧ Below w.heap.size w w' := by
  by_cases hE : E = 0
  · subst hE
    have G := hid (fun W (H : HoldsB W a n c l) => getnum_any a n c l A W H hp)
    have HL := hid hl
    have bd := rd_bd l A hl.2.2.2.2.1
    have zr := rd_zero l A
    by_cases hF : (rd l A).2.2 = 0
    · by_cases hg : most < (rd l A).1
      · have T : Hid (upT l A 0 most 4 = (0, A, 4)) := by unfold Hid upT; rw [if_pos rfl, if_pos hg]
        clear hl hp zr
        generalize rd l A = R at *
        obtain ⟨X, A1, E1⟩ := R
        simp only at hF hg bd
        subst hF
        have hg1 : decide (most < X) = true := by simp; omega
        go_enter Try.func53, Try.ntmps53
        go_upto_region 1 with fail
        have B0 := ((Below.refl w.heap.size w).alloc (Nat.le_refl _) (.cells #[.slice a n c, .int .i64 A, .int .i64 0] 102)).alloc (by simp) (.cells #[.slice none 0 0, .int .i64 0, .int .i64 0] 102)
        have HW := hid (HL.out.below B0)
        go_wp2_with fail
        with_reducible refine (G.out _ HW.out).mono ?_
        rintro e W1 ⟨rfl, rfl⟩
        clear G HW
        go_wp2_with fail
        refine bodyPost_ret (v := .tuple #[.agg #[.slice a n c, .int .i64 A, .int .i64 4], .int .i64 0]) (by simp [results, Try.results53, go_sem]) rfl ⟨by rw [T.out], (by repeat (first | exact Below.refl _ _ | assumption | refine Below.alloc ?_ (by simp <;> omega) _ | refine Below.setCell ?_ (by simp <;> omega) _ | refine Below.drew ?_ | refine below_drewN ?_ _))⟩
      · have T : Hid (upT l A 0 most 4 = rd l A) := by unfold Hid upT; rw [if_pos rfl, if_neg hg]
        rw [T.out]
        clear hl hp zr T
        generalize rd l A = R at *
        obtain ⟨X, A1, E1⟩ := R
        simp only at hF hg bd
        subst hF
        have hg1 : decide (most < X) = false := by simp; omega
        have hx1 : X ≤ 9223372036854775807 := by omega
        go_enter Try.func53, Try.ntmps53
        go_upto_region 1 with fail
        have B0 := ((Below.refl w.heap.size w).alloc (Nat.le_refl _) (.cells #[.slice a n c, .int .i64 A, .int .i64 0] 102)).alloc (by simp) (.cells #[.slice none 0 0, .int .i64 0, .int .i64 0] 102)
        have HW := hid (HL.out.below B0)
        go_wp2_with fail
        with_reducible refine (G.out _ HW.out).mono ?_
        rintro e W1 ⟨rfl, rfl⟩
        clear G HW
        have bd0 := bd.1
        go_wp2_with fail
        refine bodyPost_ret (v := .tuple #[.agg #[.slice a n c, .int .i64 A1, .int .i64 0], .int .i64 X]) (by simp [results, Try.results53, go_sem]) rfl ⟨rfl, (by repeat (first | exact Below.refl _ _ | assumption | refine Below.alloc ?_ (by simp <;> omega) _ | refine Below.setCell ?_ (by simp <;> omega) _ | refine Below.drew ?_ | refine below_drewN ?_ _))⟩
    · have hx0 := zr hF
      have hg : ¬ most < (rd l A).1 := by omega
      have T : Hid (upT l A 0 most 4 = rd l A) := by unfold Hid upT; rw [if_pos rfl, if_neg hg]
      rw [T.out]
      clear hl hp zr T
      generalize rd l A = R at *
      obtain ⟨X, A1, E1⟩ := R
      simp only at hF hg bd hx0
      subst hx0
      go_enter Try.func53, Try.ntmps53
      go_upto_region 1 with fail
      have B0 := ((Below.refl w.heap.size w).alloc (Nat.le_refl _) (.cells #[.slice a n c, .int .i64 A, .int .i64 0] 102)).alloc (by simp) (.cells #[.slice none 0 0, .int .i64 0, .int .i64 0] 102)
      have HW := hid (HL.out.below B0)
      go_wp2_with fail
      with_reducible refine (G.out _ HW.out).mono ?_
      rintro e W1 ⟨rfl, rfl⟩
      clear G HW
      go_wp2_with fail
      refine bodyPost_ret (v := .tuple #[.agg #[.slice a n c, .int .i64 A1, .int .i64 E1], .int .i64 0]) (by simp [results, Try.results53, go_sem]) rfl ⟨rfl, (by repeat (first | exact Below.refl _ _ | assumption | refine Below.alloc ?_ (by simp <;> omega) _ | refine Below.setCell ?_ (by simp <;> omega) _ | refine Below.drew ?_ | refine below_drewN ?_ _))⟩
  · have T : Hid (upT l A E most 4 = (0, A, E)) := by unfold Hid upT; rw [if_neg hE]
    clear hl hp
    go_enter Try.func53, Try.ntmps53
    go_wp2_with fail
    refine bodyPost_ret (v := .tuple #[.agg #[.slice a n c, .int .i64 A, .int .i64 E], .int .i64 0]) (by simp [results, Try.results53, go_sem]) rfl ⟨by rw [T.out], (by repeat (first | exact Below.refl _ _ | assumption | refine Below.alloc ?_ (by simp <;> omega) _ | refine Below.setCell ?_ (by simp <;> omega) _ | refine Below.drew ?_ | refine below_drewN ?_ _))⟩

set_option maxRecDepth 100000 in
set_option maxHeartbeats 4000000 in
theorem dtotal_any (a : Option Addr) (n c : Nat) (l : List Int) (A E : Int) (w : World) (hl : HoldsB w a n c l) (hp : I64 A) :
    Calls Try.prog 65 #[.agg #[.slice a n c, .int .i64 A, .int .i64 E]] w fun e w' => e = .returned (.tuple #[.agg #[.slice a n c, .int .i64 (upT l A E 1024 3).2.1, .int .i64 (upT l A E 1024 3).2.2], .int .i64 (upT l A E 1024 3).1]) ∧ Below w.heap.size w w' := by
  by_cases hE : E = 0
  · subst hE
    have G := hid (fun W (H : HoldsB W a n c l) => getnum_any a n c l A W H hp)
    have HL := hid hl
    have bd := rd_bd l A hl.2.2.2.2.1
    have zr := rd_zero l A
    by_cases hF : (rd l A).2.2 = 0
    · by_cases hg : 1024 < (rd l A).1
      · have T : Hid (upT l A 0 1024 3 = (0, A, 3)) := by unfold Hid upT; rw [if_pos rfl, if_pos hg]
        clear hl hp zr
        generalize rd l A = R at *
        obtain ⟨X, A1, E1⟩ := R
        simp only at hF hg bd
        subst hF
        have hg1 : decide (1024 < X) = true := by simp; omega
        go_enter Try.func65, Try.ntmps65
        go_upto_region 1 with fail
        have B0 := ((Below.refl w.heap.size w).alloc (Nat.le_refl _) (.cells #[.slice a n c, .int .i64 A, .int .i64 0] 102)).alloc (by simp) (.cells #[.slice none 0 0, .int .i64 0, .int .i64 0] 102)
        have HW := hid (HL.out.below B0)
        go_wp2_with fail
        with_reducible refine (G.out _ HW.out).mono ?_
        rintro e W1 ⟨rfl, rfl⟩
        clear G HW
        go_wp2_with fail
        refine bodyPost_ret (v := .tuple #[.agg #[.slice a n c, .int .i64 A, .int .i64 3], .int .i64 0]) (by simp [results, Try.results65, go_sem]) rfl ⟨by rw [T.out], (by repeat (first | exact Below.refl _ _ | assumption | refine Below.alloc ?_ (by simp <;> omega) _ | refine Below.setCell ?_ (by simp <;> omega) _ | refine Below.drew ?_ | refine below_drewN ?_ _))⟩
      · have T : Hid (upT l A 0 1024 3 = rd l A) := by unfold Hid upT; rw [if_pos rfl, if_neg hg]
        rw [T.out]
        clear hl hp zr T
        generalize rd l A = R at *
        obtain ⟨X, A1, E1⟩ := R
        simp only at hF hg bd
        subst hF
        have hg1 : decide (1024 < X) = false := by simp; omega
        have hx1 : X ≤ 9223372036854775807 := by omega
        go_enter Try.func65, Try.ntmps65
        go_upto_region 1 with fail
        have B0 := ((Below.refl w.heap.size w).alloc (Nat.le_refl _) (.cells #[.slice a n c, .int .i64 A, .int .i64 0] 102)).alloc (by simp) (.cells #[.slice none 0 0, .int .i64 0, .int .i64 0] 102)
        have HW := hid (HL.out.below B0)
        go_wp2_with fail
        with_reducible refine (G.out _ HW.out).mono ?_
        rintro e W1 ⟨rfl, rfl⟩
        clear G HW
        have bd0 := bd.1
        go_wp2_with fail
        refine bodyPost_ret (v := .tuple #[.agg #[.slice a n c, .int .i64 A1, .int .i64 0], .int .i64 X]) (by simp [results, Try.results65, go_sem]) rfl ⟨rfl, (by repeat (first | exact Below.refl _ _ | assumption | refine Below.alloc ?_ (by simp <;> omega) _ | refine Below.setCell ?_ (by simp <;> omega) _ | refine Below.drew ?_ | refine below_drewN ?_ _))⟩
    · have hx0 := zr hF
      have hg : ¬ 1024 < (rd l A).1 := by omega
      have T : Hid (upT l A 0 1024 3 = rd l A) := by unfold Hid upT; rw [if_pos rfl, if_neg hg]
      rw [T.out]
      clear hl hp zr T
      generalize rd l A = R at *
      obtain ⟨X, A1, E1⟩ := R
      simp only at hF hg bd hx0
      subst hx0
      go_enter Try.func65, Try.ntmps65
      go_upto_region 1 with fail
      have B0 := ((Below.refl w.heap.size w).alloc (Nat.le_refl _) (.cells #[.slice a n c, .int .i64 A, .int .i64 0] 102)).alloc (by simp) (.cells #[.slice none 0 0, .int .i64 0, .int .i64 0] 102)
      have HW := hid (HL.out.below B0)
      go_wp2_with fail
      with_reducible refine (G.out _ HW.out).mono ?_
      rintro e W1 ⟨rfl, rfl⟩
      clear G HW
      go_wp2_with fail
      refine bodyPost_ret (v := .tuple #[.agg #[.slice a n c, .int .i64 A1, .int .i64 E1], .int .i64 0]) (by simp [results, Try.results65, go_sem]) rfl ⟨rfl, (by repeat (first | exact Below.refl _ _ | assumption | refine Below.alloc ?_ (by simp <;> omega) _ | refine Below.setCell ?_ (by simp <;> omega) _ | refine Below.drew ?_ | refine below_drewN ?_ _))⟩
  · have T : Hid (upT l A E 1024 3 = (0, A, E)) := by unfold Hid upT; rw [if_neg hE]
    clear hl hp
    go_enter Try.func65, Try.ntmps65
    go_wp2_with fail
    refine bodyPost_ret (v := .tuple #[.agg #[.slice a n c, .int .i64 A, .int .i64 E], .int .i64 0]) (by simp [results, Try.results65, go_sem]) rfl ⟨by rw [T.out], (by repeat (first | exact Below.refl _ _ | assumption | refine Below.alloc ?_ (by simp <;> omega) _ | refine Below.setCell ?_ (by simp <;> omega) _ | refine Below.drew ?_ | refine below_drewN ?_ _))⟩
end Go.Proofs.Ythkbddnkcljjpaa

namespace Go.Proofs.Ythkbddnkcljjpaa
open Go.RowKit Go.Deep
set_option linter.unusedVariables false
set_option linter.unusedSimpArgs false

/-- The place of the fault, and the error. -/
def endT (n : Nat) (A E : Int) : Int × Int := if E = 0 then (if A < n then (A, 7) else (0, 0)) else (A, E)
set_option maxRecDepth 100000 in
set_option maxHeartbeats 4000000 in
theorem dend_any (a : Option Addr) (n c : Nat) (A E : Int) (w : World) :
    Calls Try.prog 57 #[.agg #[.slice a n c, .int .i64 A, .int .i64 E]] w fun e w' => e = .returned (.tuple #[.int .i64 (endT n A E).1, .int .i64 (endT n A E).2]) ∧ Below w.heap.size w w' := by
  by_cases hE : E = 0
  · subst hE
    by_cases hA : A < (n : Int)
    · have T : Hid (endT n A 0 = (A, 7)) := by unfold Hid endT; rw [if_pos rfl, if_pos hA]
      have hA1 : decide (A < (n : Int)) = true := by simp; omega
      go_enter Try.func57, Try.ntmps57
      go_wp2_with fail
      refine bodyPost_ret (v := .tuple #[.int .i64 A, .int .i64 7]) (by simp [results, Try.results57, go_sem]) rfl ⟨by rw [T.out], (by repeat (first | exact Below.refl _ _ | assumption | refine Below.alloc ?_ (by simp <;> omega) _ | refine Below.setCell ?_ (by simp <;> omega) _ | refine Below.drew ?_ | refine below_drewN ?_ _))⟩
    · have T : Hid (endT n A 0 = (0, 0)) := by unfold Hid endT; rw [if_pos rfl, if_neg hA]
      have hA1 : decide (A < (n : Int)) = false := by simp; omega
      go_enter Try.func57, Try.ntmps57
      go_wp2_with fail
      refine bodyPost_ret (v := .tuple #[.int .i64 0, .int .i64 0]) (by simp [results, Try.results57, go_sem]) rfl ⟨by rw [T.out], (by repeat (first | exact Below.refl _ _ | assumption | refine Below.alloc ?_ (by simp <;> omega) _ | refine Below.setCell ?_ (by simp <;> omega) _ | refine Below.drew ?_ | refine below_drewN ?_ _))⟩
  · have T : Hid (endT n A E = (A, E)) := by unfold Hid endT; rw [if_neg hE]
    go_enter Try.func57, Try.ntmps57
    go_upto_region 2 with fail
    have y1 : (w.alloc (.cells #[.slice a n c, .int .i64 A, .int .i64 E] 102)).cell? ⟨w.heap.size, 1, none⟩ = some (.int .i64 A) := by simp [go_sem]
    have y2 : (w.alloc (.cells #[.slice a n c, .int .i64 A, .int .i64 E] 102)).cell? ⟨w.heap.size, 2, none⟩ = some (.int .i64 E) := by simp [go_sem]
    go_region
    all_goals (try go_wp2_with fail)
    all_goals (refine bodyPost_ret (v := .tuple #[.int .i64 A, .int .i64 E]) (by simp [results, Try.results57, go_sem]) rfl ⟨by rw [T.out], (by repeat (first | exact Below.refl _ _ | assumption | refine Below.alloc ?_ (by simp <;> omega) _ | refine Below.setCell ?_ (by simp <;> omega) _ | refine Below.drew ?_ | refine below_drewN ?_ _))⟩)
end Go.Proofs.Ythkbddnkcljjpaa

namespace Go.Proofs.Ythkbddnkcljjpaa
open Go.RowKit Go.Deep
set_option linter.unusedVariables false

section
variable {α : Type}
/-- The place and the error behind k things. -/
def lsS (pe : Int → Int → α × Int × Int) (A E : Int) : Nat → Int × Int
  | 0 => (A, E)
  | k + 1 => (pe (lsS pe A E k).1 (lsS pe A E k).2).2
/-- The k-th thing. -/
def lsV (pe : Int → Int → α × Int × Int) (A E : Int) (k : Nat) : α := (pe (lsS pe A E k).1 (lsS pe A E k).2).1
/-- How many are read, of so many more, k being read. -/
def lsN (pe : Int → Int → α × Int × Int) (A E : Int) : Nat → Nat → Nat
  | 0, k => k
  | f + 1, k => if (lsS pe A E (k + 1)).2 = 0 then lsN pe A E f (k + 1) else k
theorem lsN_le (pe : Int → Int → α × Int × Int) (A E : Int) : ∀ f k, k ≤ lsN pe A E f k ∧ lsN pe A E f k ≤ k + f
  | 0, k => ⟨Nat.le_refl _, Nat.le_refl _⟩
  | f + 1, k => by
    unfold lsN
    split
    · have := lsN_le pe A E f (k + 1); omega
    · omega
theorem lsN_yes (pe : Int → Int → α × Int × Int) (A E : Int) : ∀ f k j, k ≤ j → j < lsN pe A E f k → (lsS pe A E (j + 1)).2 = 0
  | 0, k, j, h1, h2 => by unfold lsN at h2; omega
  | f + 1, k, j, h1, h2 => by
    unfold lsN at h2
    split at h2
    · rename_i h
      rcases Nat.eq_or_lt_of_le h1 with e | e
      · subst e; exact h
      · exact lsN_yes pe A E f (k + 1) j (by omega) h2
    · omega
theorem lsN_no (pe : Int → Int → α × Int × Int) (A E : Int) : ∀ f k, lsN pe A E f k < k + f → (lsS pe A E (lsN pe A E f k + 1)).2 ≠ 0
  | 0, k, h => by unfold lsN at h; omega
  | f + 1, k, h => by
    unfold lsN at h ⊢
    split
    · rename_i h1
      rw [if_pos h1] at h
      exact lsN_no pe A E f (k + 1) (by omega)
    · rename_i h1; exact h1
/-- All of n are read. -/
theorem lsN_all (pe : Int → Int → α × Int × Int) (A E : Int) (f k : Nat) (h : ∀ j, k ≤ j → j < k + f → (lsS pe A E (j + 1)).2 = 0) : lsN pe A E f k = k + f := by
  have h1 := lsN_le pe A E f k
  apply Classical.byContradiction
  intro hn
  have h2 := lsN_no pe A E f k (by omega)
  exact h2 (h _ h1.1 (by omega))
/-- How many there are, of so many. -/
def lsC (pe : Int → Int → α × Int × Int) (A E : Int) (c : Int) : Nat := lsN pe A E c.toNat 0
/-- The things that are read. -/
def lsL (pe : Int → Int → α × Int × Int) (A E c : Int) : List α := (List.range (lsC pe A E c)).map (lsV pe A E)
/-- The place and the error behind them. -/
def lsF (pe : Int → Int → α × Int × Int) (A E c : Int) : Int × Int := if lsC pe A E c < c.toNat then lsS pe A E (lsC pe A E c + 1) else lsS pe A E (lsC pe A E c)
theorem lsC_le (pe : Int → Int → α × Int × Int) (A E c : Int) : lsC pe A E c ≤ c.toNat := by have := (lsN_le pe A E c.toNat 0).2; unfold lsC; omega
theorem lsL_len (pe : Int → Int → α × Int × Int) (A E c : Int) : (lsL pe A E c).length = lsC pe A E c := by simp [lsL]
theorem lsL_take (pe : Int → Int → α × Int × Int) (A E c : Int) {k : Nat} (h : k < lsC pe A E c) : (List.range (k + 1)).map (lsV pe A E) = (List.range k).map (lsV pe A E) ++ [lsV pe A E k] := by
  rw [List.range_succ, List.map_append]; rfl
end
end Go.Proofs.Ythkbddnkcljjpaa

namespace Go.Proofs.Ythkbddnkcljjpaa
open Go.RowKit Go.Deep Go.Maps
set_option linter.unusedVariables false
set_option linter.unusedSimpArgs false
attribute [local go_sem] Oper.semAt_some
attribute [local go_sem ↓] appF_eq

/-- The reader as it stands while a list is read: k things behind the count. -/
def lsP {α : Type} (pe : Int → Int → α × Int × Int) (l : List Int) (A E : Int) (k : Nat) : Int × Int := if k = 0 then (A, E) else lsS pe (upT l A E 1024 3).2.1 (upT l A E 1024 3).2.2 k
theorem lsP_zero {α : Type} (pe : Int → Int → α × Int × Int) (l : List Int) (A E : Int) : lsP pe l A E 0 = (A, E) := rfl
theorem lsP_succ {α : Type} (pe : Int → Int → α × Int × Int) (l : List Int) (A E : Int) (k : Nat) : lsP pe l A E (k + 1) = lsS pe (upT l A E 1024 3).2.1 (upT l A E 1024 3).2.2 (k + 1) := rfl
/-- How many things of a list are read, the things, and the reader behind them. -/
def liC {α : Type} (pe : Int → Int → α × Int × Int) (l : List Int) (A E : Int) : Nat := lsC pe (upT l A E 1024 3).2.1 (upT l A E 1024 3).2.2 (upT l A E 1024 3).1
def liL {α : Type} (pe : Int → Int → α × Int × Int) (l : List Int) (A E : Int) : List α := lsL pe (upT l A E 1024 3).2.1 (upT l A E 1024 3).2.2 (upT l A E 1024 3).1
def liF {α : Type} (pe : Int → Int → α × Int × Int) (l : List Int) (A E : Int) : Int × Int := lsF pe (upT l A E 1024 3).2.1 (upT l A E 1024 3).2.2 (upT l A E 1024 3).1
/-- The k-th thing. -/
def liV {α : Type} (pe : Int → Int → α × Int × Int) (l : List Int) (A E : Int) (k : Nat) : α := lsV pe (upT l A E 1024 3).2.1 (upT l A E 1024 3).2.2 k
/-- The first k things. -/
def liT {α : Type} (pe : Int → Int → α × Int × Int) (l : List Int) (A E : Int) (k : Nat) : List α := (List.range k).map (liV pe l A E)
theorem liT_len {α : Type} (pe : Int → Int → α × Int × Int) (l : List Int) (A E : Int) (k : Nat) : (liT pe l A E k).length = k := by simp [liT]
theorem liT_succ {α : Type} (pe : Int → Int → α × Int × Int) (l : List Int) (A E : Int) (k : Nat) : liT pe l A E (k + 1) = liT pe l A E k ++ [liV pe l A E k] := by
  unfold liT; rw [List.range_succ, List.map_append]; rfl
theorem liT_all {α : Type} (pe : Int → Int → α × Int × Int) (l : List Int) (A E : Int) : liT pe l A E (liC pe l A E) = liL pe l A E := rfl
theorem upT_at (l : List Int) (A E m f : Int) (h0 : 0 ≤ A) (h1 : A ≤ l.length) : 0 ≤ (upT l A E m f).2.1 ∧ (upT l A E m f).2.1 ≤ l.length := by
  unfold upT
  split
  · split
    · exact ⟨h0, h1⟩
    · exact rd_at l A h0 h1
  · exact ⟨h0, h1⟩
theorem upT_bd (l : List Int) (A E m f : Int) (hb : BB l) (hm : 0 ≤ m) : 0 ≤ (upT l A E m f).1 ∧ (upT l A E m f).1 ≤ m := by
  unfold upT
  have := rd_bd l A hb
  split
  · split
    · exact ⟨Int.le_refl 0, hm⟩
    · exact ⟨this.1, by omega⟩
  · exact ⟨Int.le_refl 0, hm⟩
theorem liC_le {α : Type} (pe : Int → Int → α × Int × Int) (l : List Int) (A E : Int) (hb : BB l) : (liC pe l A E : Int) ≤ (upT l A E 1024 3).1 ∧ liC pe l A E ≤ 1024 := by
  have h := lsC_le pe (upT l A E 1024 3).2.1 (upT l A E 1024 3).2.2 (upT l A E 1024 3).1
  have := upT_bd l A E 1024 3 hb (by omega)
  unfold liC; omega
theorem lsS_at {α : Type} {pe : Int → Int → α × Int × Int} {n : Nat} (hp : ∀ A E : Int, 0 ≤ A → A ≤ (n : Int) → 0 ≤ (pe A E).2.1 ∧ (pe A E).2.1 ≤ (n : Int)) {A E : Int} (h0 : 0 ≤ A) (h1 : A ≤ n) : ∀ k, 0 ≤ (lsS pe A E k).1 ∧ (lsS pe A E k).1 ≤ n
  | 0 => ⟨h0, h1⟩
  | k + 1 => by have h := lsS_at hp (E := E) h0 h1 k; exact hp _ _ h.1 h.2
theorem liF_at {α : Type} {pe : Int → Int → α × Int × Int} {l : List Int} (hp : ∀ A E, 0 ≤ A → A ≤ (l.length : Int) → 0 ≤ (pe A E).2.1 ∧ (pe A E).2.1 ≤ (l.length : Int)) {A E : Int} (h0 : 0 ≤ A) (h1 : A ≤ l.length) : 0 ≤ (liF pe l A E).1 ∧ (liF pe l A E).1 ≤ l.length := by
  have h := upT_at l A E 1024 3 h0 h1
  unfold liF lsF
  split
  · exact lsS_at hp h.1 h.2 _
  · exact lsS_at hp h.1 h.2 _

theorem rint_el (p : Nat) (a : Option Addr) (n c : Nat) (l : List Int) (A E : Int) (w : World) (h : RdC w p (.slice a n c) A E) (hl : HoldsB w a n c l) (h0 : 0 ≤ A) (h1 : A ≤ n) (hne : ∀ b o, a = some ⟨b, o, none⟩ → 0 < n → b ≠ p) :
    Calls Try.prog 86 #[.pointer (some ⟨p, 0, none⟩)] w fun e w' => e = .returned (.int .i64 (tkI l A E).1) ∧ RdC w' p (.slice a n c) (tkI l A E).2.1 (tkI l A E).2.2 ∧ RK p w w' :=
  rint_any p a n c l A E w h hl ⟨by omega, by have := hl.2.1; omega⟩ hne

theorem elemsI_mk (p : Nat) (w : World) :
    Calls Try.prog 112 #[.pointer (some ⟨p, 0, none⟩), .func (.func 86) #[.pointer (some ⟨p, 0, none⟩)] #[]] w fun e w' => e = .returned (.func (.func 124) #[] #[.pointer (some ⟨w.heap.size, 0, none⟩), .pointer (some ⟨w.heap.size + 1, 0, none⟩)]) ∧ ∃ t1 t2, (w.alloc (.cells #[.pointer (some ⟨p, 0, none⟩)] t1)).alloc (.cells #[.func (.func 86) #[.pointer (some ⟨p, 0, none⟩)] #[]] t2) = w' := by
  go_enter Try.func112, Try.ntmps112
  go_wp2
  go_ret
  exact ⟨rfl, _, _, rfl⟩

set_option maxRecDepth 100000 in
set_option maxHeartbeats 4000000 in
theorem elemsI_turns (m : Nat) (hm : 2 ≤ m) (p Bg Bn : Nat) (a : Option Addr) (n c : Nat) (l : List Int) (A E : Int) (w : World) (h0 : 0 ≤ A) (h1 : A ≤ n) (hlen : l.length = n) (hn : n ≤ 9223372036854775807) (hbb : BB l) (hne : ∀ b o, a = some ⟨b, o, none⟩ → 0 < n → b ≠ p) (ng : Bg ≠ p) (nb : Bn ≠ p) :
    TurnsX Fence.wide m Try.prog 124 #[.pointer (some ⟨Bg, 0, none⟩), .pointer (some ⟨Bn, 0, none⟩)] (liC (tkI l) l A E)
      (fun k W => W.cell? ⟨Bg, 0, none⟩ = some (.pointer (some ⟨p, 0, none⟩)) ∧ W.cell? ⟨Bn, 0, none⟩ = some (.func (.func 86) #[.pointer (some ⟨p, 0, none⟩)] #[]) ∧ RdC W p (.slice a n c) (lsP (tkI l) l A E k).1 (lsP (tkI l) l A E k).2 ∧ HoldsB W a n c l)
      (fun k x W B => x = .int .i64 (liV (tkI l) l A E k) ∧ RdC B p (.slice a n c) (lsP (tkI l) l A E (k + 1)).1 (lsP (tkI l) l A E (k + 1)).2 ∧ RK p W B)
      (fun W B => RdC B p (.slice a n c) (liF (tkI l) l A E).1 (liF (tkI l) l A E).2 ∧ RK p W B) w := fun lp J JM JF W hW hRd hSt hFi hY hJ0 => by
  have hm1 : 1 ≤ m := by omega
  obtain ⟨cg0, cn0, r0, l0⟩ := hRd 0 W hJ0
  rw [lsP_zero] at r0
  have CB := hid (upT_bd l A E 1024 3 hbb (by omega))
  have AT := hid (upT_at l A E 1024 3 h0 (by omega))
  have AS := hid (fun k => lsS_at (pe := (tkI l)) (n := n) (E := (upT l A E 1024 3).2.2) (fun A E h0 h1 => by have := tkI_at l A E h0 (by omega); omega) AT.out.1 (by have := AT.out.2; omega) k)
  have UP := hid (upto_any p a n c l A E 1024 3 W r0 l0 ⟨by omega, by omega⟩ (by omega) hne)
  have NN : Hid (liC (tkI l) l A E = lsN (tkI l) (upT l A E 1024 3).2.1 (upT l A E 1024 3).2.2 (upT l A E 1024 3).1.toNat 0) := rfl
  have FF : Hid (liF (tkI l) l A E = if liC (tkI l) l A E < (upT l A E 1024 3).1.toNat then lsS (tkI l) (upT l A E 1024 3).2.1 (upT l A E 1024 3).2.2 (liC (tkI l) l A E + 1) else lsS (tkI l) (upT l A E 1024 3).2.1 (upT l A E 1024 3).2.2 (liC (tkI l) l A E)) := rfl
  have ST := hid hSt
  have FI := hid hFi
  have YY := hid hY
  have RR := hid hRd
  have J0 := hid hJ0
  have PS := hid (fun k => lsP_succ (tkI l) l A E k)
  have PV : Hid (∀ k, liV (tkI l) l A E k = lsV (tkI l) (upT l A E 1024 3).2.1 (upT l A E 1024 3).2.2 k) := fun k => rfl
  have HB := hid l0
  have CN := hid cn0
  clear hSt hFi hY hRd hJ0 cn0 r0 l0
  generalize hli : liC (tkI l) l A E = N at *
  generalize liF (tkI l) l A E = FN at *
  generalize hup : upT l A E 1024 3 = U at *
  obtain ⟨cc, A0, E0⟩ := U
  simp only at CB AT AS UP NN FF PS PV
  obtain ⟨C, rfl⟩ : ∃ C : Nat, cc = (C : Int) := ⟨cc.toNat, by have := CB.out.1; omega⟩
  have hC : C ≤ 1024 := by have := CB.out.2; omega
  have NL := hid (lsN_le (tkI l) A0 E0 C 0)
  have NY := hid (lsN_yes (tkI l) A0 E0 C 0)
  have NO := hid (lsN_no (tkI l) A0 E0 C 0)
  simp only [Int.toNat_natCast] at NN FF
  rw [← NN.out] at NL NY NO
  have hNC : N ≤ C := by have := NL.out.2; omega
  clear NN CB AT hup hli NL
  refine callsIn_of_wp Try.func124 rfl trivial ?_ rfl
  simp only [Try.ntmps124, List.size_toArray, List.length_cons, List.length_nil, Nat.reduceAdd, Nat.reduceSub, Array.replicate_succ, Array.replicate_zero, List.push_toArray, List.append_toArray, List.nil_append, List.cons_append]
  gi_wp2
  refine ⟨trivial, ?_⟩
  refine (callsIn_wide.2 UP.out).mono ?_
  rintro e W1 ⟨rfl, r1, k1⟩
  have SW : Hid (∃ W0, J 0 W0 ∧ RK p W0 W1 ∧ RdC W1 p (.slice a n c) A0 E0) := ⟨W, J0.out, k1, r1⟩
  clear UP cg0 r1 k1
  gi_wp2
  gi_loopw [7] (fun v wr => ∃ k : Nat, k ≤ N ∧ v = .int .u64 (k : Int) ∧ Hid (∃ W0, J k W0 ∧ RK p W0 wr ∧ RdC wr p (.slice a n c) (lsS (tkI l) A0 E0 k).1 (lsS (tkI l) A0 E0 k).2)) (fun v _ => N + 1 - (intOf v).toNat)
  case atStart => exact ⟨0, by omega, rfl, SW.out⟩
  case round =>
    clear SW
    obtain ⟨k, hk, rfl, hX⟩ := hrel
    obtain ⟨W0, hJ, hK, hR⟩ := hX.out
    obtain ⟨cg, cn, _, hB⟩ := RR.out k W0 hJ
    replace cg := hK.keep cg ng
    replace cn := hK.keep cn nb
    replace hB := hK.holds hB hne
    have hK' := hid hK
    have hJ' := hid hJ
    have hRR := hid hR
    have C1 := hid (rint_el p a n c l (lsS (tkI l) A0 E0 k).1 (lsS (tkI l) A0 E0 k).2 wr hR hB (AS.out k).1 (AS.out k).2 hne)
    clear hX hJ hK hR hB
    have ka : (0 : Int) ≤ (k : Int) := by omega
    by_cases hlt : k < C
    · have kb : (k : Int) < (C : Int) := by omega
      have tb : decide ((k : Int) < (C : Int)) = true := by simp; omega
      have EV : Hid (lsV (tkI l) A0 E0 k = ((tkI l) (lsS (tkI l) A0 E0 k).1 (lsS (tkI l) A0 E0 k).2).1) := rfl
      have ES : Hid (lsS (tkI l) A0 E0 (k + 1) = ((tkI l) (lsS (tkI l) A0 E0 k).1 (lsS (tkI l) A0 E0 k).2).2) := rfl
      generalize ((tkI l) (lsS (tkI l) A0 E0 k).1 (lsS (tkI l) A0 E0 k).2) = Z at *
      obtain ⟨z, A1, E1⟩ := Z
      simp only at C1 EV ES
      gi_wp2
      refine ⟨trivial, ?_⟩
      refine (callsIn_wide.2 C1.out).mono ?_
      rintro e W2 ⟨rfl, r2, k2⟩
      have K2 := hid (hK'.out.trans k2)
      have R2 := hid r2
      have cg2 := k2.keep cg ng
      obtain ⟨⟨q0, q1, q2⟩, qf0, qf1, qf2⟩ := r2
      clear C1 qf0 qf1 qf2 q0 q1 k2 cg cn
      by_cases hN : k < N
      · have e0 : E1 = 0 := by have := NY.out k (by omega) hN; rw [ES.out] at this; exact this
        subst e0
        have hMJ := ST.out k (.int .i64 z) W0 W2 hJ'.out hN ⟨by rw [PV.out, EV.out], by rw [PS.out, ES.out]; exact R2.out, K2.out⟩
        obtain ⟨fn, tmps, assign, body, hy, hR⟩ := YY.out k (.int .i64 z) W2 hMJ hN
        have HR := hid hR
        clear hMJ hR
        gi_wp2
        refine HR.out.mono ?_
        rintro e W4 ⟨rfl, J4⟩
        have HJ4 := hid J4
        have P4 := hid (RR.out _ W4 J4)
        clear J4
        gi_wp2
        go_roundw
        case rel => exact ⟨k + 1, by omega, by go_num, W4, HJ4.out, RK.refl _ _, by have := P4.out.2.2.1; rw [PS.out] at this; exact this⟩
        case measure => simp [intOf]; omega
      · have ek : N = k := by omega
        subst ek
        have e0 : E1 ≠ 0 := by have := NO.out (by omega); rw [ES.out] at this; exact this
        have te : (E1 != 0) = true := by simpa using e0
        have HF := FI.out W0 W2 hJ'.out ⟨by rw [FF.out, if_pos hlt, ES.out]; exact R2.out, K2.out⟩
        have HF' := hid HF
        clear HF e0
        gi_wp2
        refine ⟨fun f hf => (by cases hf), ?_⟩
        gi_wp2
        refine bodyPost_ret (results_none rfl _ _ _) rfl ?_
        exact ⟨⟨_, rfl⟩, HF'.out⟩
    · have kc : k = C := by omega
      have kn : N = k := by omega
      subst kn
      have tb : decide ((N : Int) < (C : Int)) = false := by simp; omega
      obtain ⟨W0', hJ2, hK2, hR2⟩ : ∃ W0, J N W0 ∧ RK p W0 wr ∧ RdC wr p (.slice a n c) (lsS (tkI l) A0 E0 N).1 (lsS (tkI l) A0 E0 N).2 := ⟨W0, hJ'.out, hK'.out, hRR.out⟩
      have HF := FI.out W0' wr hJ2 ⟨by rw [FF.out, if_neg hlt]; exact hR2, hK2⟩
      have HF' := hid HF
      clear HF hJ2 hK2 hR2 C1
      gi_wp2
      go_end0
      exact ⟨⟨_, rfl⟩, HF'.out⟩

end Go.Proofs.Ythkbddnkcljjpaa

namespace Go.Proofs.Ythkbddnkcljjpaa
open Go.RowKit Go.Deep Go.Maps
set_option linter.unusedVariables false
set_option linter.unusedSimpArgs false
attribute [local go_sem] Oper.semAt_some
attribute [local go_sem ↓] appF_eq

theorem RK.own {p : Nat} {w A B : World} {row : Option Nat} {S : Nat} (h : RK p w A) (hg : A.grownBy B row) (hr : ∀ r, row = some r → S ≤ r) (hS : w.heap.size ≤ S) : RK p w B :=
  ⟨hg.os.trans h.os, hg.tape.trans h.tape, hg.output.trans h.output, Nat.le_trans h.size hg.size, fun b hb h1 h2 => (hg.block b (Nat.lt_of_lt_of_le hb h.size) (fun e => by have := hr b e.symm; omega)).trans (h.block b hb h1 h2), fun _ e => by cases e⟩
theorem RdC.own {p : Nat} {A B : World} {b : Value} {X E : Int} {row : Option Nat} (h : RdC A p b X E) (hg : A.grownBy B row) (hr : ∀ r, row = some r → ∃ o : Obj, A.heap[r]? = some o ∧ o.isCells = false) : RdC B p b X E := by
  obtain ⟨⟨h1, h2, h3⟩, f1, f2, f3⟩ := h
  exact ⟨⟨cell_kept h1 hg hr, cell_kept h2 hg hr, cell_kept h3 hg hr⟩, (frozen_kept h1 hg hr).trans f1, (frozen_kept h2 hg hr).trans f2, (frozen_kept h3 hg hr).trans f3⟩
theorem RdC.same {p : Nat} {A B : World} {b : Value} {X E : Int} (h : RdC A p b X E) (hb : B.heap[p]? = A.heap[p]?) : RdC B p b X E := by
  obtain ⟨⟨h1, h2, h3⟩, f1, f2, f3⟩ := h
  exact ⟨⟨(World.cell?_of_block (w := A) hb).trans h1, (World.cell?_of_block (w := A) hb).trans h2, (World.cell?_of_block (w := A) hb).trans h3⟩, (World.frozen?_of_block (w := A) hb).trans f1, (World.frozen?_of_block (w := A) hb).trans f2, (World.frozen?_of_block (w := A) hb).trans f3⟩
theorem OwnE.rk {α : Type} {e : TypeId} {k p : Nat} {enc : α → List Value} {base n : Nat} {l : List α} {v : Value} {w w' : World} (h : OwnE e k enc base w v n l) (T : RK p w w') (h1 : p < base) : OwnE e k enc base w' v n l := by
  obtain ⟨h0, h3, h4⟩ := h
  refine ⟨h0, h3, ?_⟩
  rcases h4 with h4 | ⟨g, cap, cur, hv, hg, hh, q⟩
  · exact .inl h4
  · exact .inr ⟨g, cap, cur, hv, hg, (T.block g (Array.getElem?_eq_some_iff.1 hh).1 (by omega) (by intro e; cases e)).trans hh, q⟩
theorem RK.bel {p : Nat} {A B C : World} (h : RK p A B) (hb : Below B.heap.size B C) : RK p A C := h.trans (WK.of_below hb)

/-- What stands while the things of a list are gathered: k of them. -/
structure GaI (ib S p : Nat) (a : Option Addr) (n c : Nat) (l : List Int) (A E : Int) (w : World) (k : Nat) (pl : Int × Int) (W : World) : Prop where
  row : ∃ v, W.cell? ⟨ib, 0, none⟩ = some v ∧ W.frozen? ⟨ib, 0, none⟩ = false ∧ OwnN S W v k (liT (tkI l) l A E k)
  cg : W.cell? ⟨ib + 1, 0, none⟩ = some (.pointer (some ⟨p, 0, none⟩))
  cn : W.cell? ⟨ib + 2, 0, none⟩ = some (.func (.func 86) #[.pointer (some ⟨p, 0, none⟩)] #[])
  rd : RdC W p (.slice a n c) pl.1 pl.2
  rk : RK p w W
  sz : S ≤ W.heap.size
theorem GaI.own {ib S p k : Nat} {a : Option Addr} {n c : Nat} {l : List Int} {X E : Int} {pl : Int × Int} {w A B : World} {row : Option Nat} (h : GaI ib S p a n c l X E w k pl A) (hg : A.grownBy B row) (hr : ∀ r, row = some r → S ≤ r ∧ ∃ o : Obj, A.heap[r]? = some o ∧ o.isCells = false) (hS : w.heap.size ≤ S) : GaI ib S p a n c l X E w k pl B := by
  have hr' : ∀ r, row = some r → ∃ o : Obj, A.heap[r]? = some o ∧ o.isCells = false := fun r e => (hr r e).2
  obtain ⟨v, h1, h2, h3⟩ := h.row
  exact ⟨⟨v, cell_kept h1 hg hr', (frozen_kept h1 hg hr').trans h2, h3.own hg hr'⟩, cell_kept h.cg hg hr', cell_kept h.cn hg hr', h.rd.own hg hr', h.rk.own hg (fun r e => (hr r e).1) hS, Nat.le_trans h.sz hg.size⟩
theorem GaI.turn {ib S p k : Nat} {a : Option Addr} {n c : Nat} {l : List Int} {X E : Int} {pl pl' : Int × Int} {w A B : World} (h : GaI ib S p a n c l X E w k pl A) (T : RK p A B) (G : RdC B p (.slice a n c) pl'.1 pl'.2) (h1 : p < ib) (hi : ib ≤ S) : GaI ib S p a n c l X E w k pl' B := by
  obtain ⟨v, h3, h4, h5⟩ := h.row
  exact ⟨⟨v, T.keep h3 (by show ib ≠ p; omega), (T.froz h3 (by show ib ≠ p; omega)).trans h4, h5.rk T (by omega)⟩, T.keep h.cg (by show ib + 1 ≠ p; omega), T.keep h.cn (by show ib + 2 ≠ p; omega), G, h.rk.trans T, Nat.le_trans h.sz T.size⟩

set_option maxRecDepth 100000 in
set_option maxHeartbeats 4000000 in
theorem listI_in (p : Nat) (a : Option Addr) (n c : Nat) (l : List Int) (A E : Int) (w : World) (h : RdC w p (.slice a n c) A E) (hl : HoldsB w a n c l) (h0 : 0 ≤ A) (h1 : A ≤ n) (hne : ∀ b o, a = some ⟨b, o, none⟩ → 0 < n → b ≠ p) :
    CallsIn Fence.wide 5 Try.prog 90 #[.pointer (some ⟨p, 0, none⟩), .func (.func 86) #[.pointer (some ⟨p, 0, none⟩)] #[]] w fun e w' => ∃ v, e = .returned v ∧ OwnN w.heap.size w' v (liC (tkI l) l A E) (liL (tkI l) l A E) ∧ RdC w' p (.slice a n c) (liF (tkI l) l A E).1 (liF (tkI l) l A E).2 ∧ RK p w w' := by
  obtain ⟨i0, hi, hz0, hz1, hz2⟩ := info_parts infoN
  have HR := hid h
  have HL := hid hl
  have plt := h.lt
  have hlen := hl.1
  have hnm := hl.2.1
  have hbb := hl.2.2.2.2.1
  have LC := (liC_le (tkI l) l A E hbb).2
  clear h hl
  refine callsIn_of_wp_marks Try.func90 rfl trivial ?_ rfl
  simp only [Try.ntmps90, List.size_toArray, List.length_cons, List.length_nil, Nat.reduceAdd, Nat.reduceSub, Array.replicate_succ, Array.replicate_zero, List.push_toArray, List.append_toArray, List.nil_append, List.cons_append]
  gi_wp2_with fail
  refine ⟨trivial, ?_⟩
  refine (callsIn_wide.2 (elemsI_mk p _)).mono ?_
  rintro e w' ⟨rfl, t1, t2, rfl⟩
  gi_wp2_with fail
  have hsz : (((w.alloc (.cells #[.slice none 0 0] 28)).alloc (.cells #[.pointer (some ⟨p, 0, none⟩)] t1)).alloc (.cells #[.func (.func 86) #[.pointer (some ⟨p, 0, none⟩)] #[]] t2)).heap.size = w.heap.size + 3 := by simp
  have hB0 : Below w.heap.size w (((w.alloc (.cells #[.slice none 0 0] 28)).alloc (.cells #[.pointer (some ⟨p, 0, none⟩)] t1)).alloc (.cells #[.func (.func 86) #[.pointer (some ⟨p, 0, none⟩)] #[]] t2)) := (by repeat (first | exact Below.refl _ _ | assumption | refine Below.alloc ?_ (by simp <;> omega) _ | refine Below.setCell ?_ (by simp <;> omega) _ | refine Below.drew ?_ | refine below_drewN ?_ _))
  have e0 : (((w.alloc (.cells #[.slice none 0 0] 28)).alloc (.cells #[.pointer (some ⟨p, 0, none⟩)] t1)).alloc (.cells #[.func (.func 86) #[.pointer (some ⟨p, 0, none⟩)] #[]] t2)).cell? ⟨w.heap.size, 0, none⟩ = some (.slice none 0 0) := by simp [go_sem]
  have g0 : (((w.alloc (.cells #[.slice none 0 0] 28)).alloc (.cells #[.pointer (some ⟨p, 0, none⟩)] t1)).alloc (.cells #[.func (.func 86) #[.pointer (some ⟨p, 0, none⟩)] #[]] t2)).frozen? ⟨w.heap.size, 0, none⟩ = false := by simp [go_sem]
  have e1 : (((w.alloc (.cells #[.slice none 0 0] 28)).alloc (.cells #[.pointer (some ⟨p, 0, none⟩)] t1)).alloc (.cells #[.func (.func 86) #[.pointer (some ⟨p, 0, none⟩)] #[]] t2)).cell? ⟨w.heap.size + 1, 0, none⟩ = some (.pointer (some ⟨p, 0, none⟩)) := by simp [go_sem]
  have e2 : (((w.alloc (.cells #[.slice none 0 0] 28)).alloc (.cells #[.pointer (some ⟨p, 0, none⟩)] t1)).alloc (.cells #[.func (.func 86) #[.pointer (some ⟨p, 0, none⟩)] #[]] t2)).cell? ⟨w.heap.size + 2, 0, none⟩ = some (.func (.func 86) #[.pointer (some ⟨p, 0, none⟩)] #[]) := by simp [go_sem]
  generalize hW0 : (((w.alloc (.cells #[.slice none 0 0] 28)).alloc (.cells #[.pointer (some ⟨p, 0, none⟩)] t1)).alloc (.cells #[.func (.func 86) #[.pointer (some ⟨p, 0, none⟩)] #[]] t2)) = W0 at *
  have A0 : GaI w.heap.size (w.heap.size + 3) p a n c l A E w 0 (lsP (tkI l) l A E 0) W0 := ⟨⟨_, e0, g0, OwnE.nil _ _ _ _ _⟩, e1, e2, HR.out.below hB0, WK.of_below hB0, by omega⟩
  refine wpIn_rangeFunc_x rfl (by omega) (gf := 124) (lb := #[.pointer (some ⟨w.heap.size + 1, 0, none⟩), .pointer (some ⟨w.heap.size + 1 + 1, 0, none⟩)]) rfl trivial (enters_of Try.func124 (by kernel_rfl) rfl)
    (elemsI_turns 4 (by omega) p (w.heap.size + 1) (w.heap.size + 1 + 1) a n c l A E W0 h0 h1 hlen hnm hbb hne (by omega) (by omega)) rfl
    (fun k W => GaI w.heap.size (w.heap.size + 3) p a n c l A E w k (lsP (tkI l) l A E k) W) (fun k x W => x = .int .i64 (liV (tkI l) l A E k) ∧ GaI w.heap.size (w.heap.size + 3) p a n c l A E w k (lsP (tkI l) l A E (k + 1)) W) (fun W => GaI w.heap.size (w.heap.size + 3) p a n c l A E w (liC (tkI l) l A E) (liF (tkI l) l A E) W)
    (fun k A B row hs hgr hr => hs.own hgr (fun r' e => by have := hr r' e; rw [hsz] at this; exact this) (by omega))
    (fun x k A B row hs hgr hr => ⟨hs.1, hs.2.own hgr (fun r' e => by have := hr r' e; rw [hsz] at this; exact this) (by omega)⟩)
    (fun k A B row hs hgr hr => hs.own hgr (fun r' e => by have := hr r' e; rw [hsz] at this; exact this) (by omega))
    A0 (fun k A hs => ⟨hs.cg, hs.cn, hs.rd, hs.rk.holds HL.out hne⟩)
    (fun k x A B hs hk hst => ⟨hst.1, hs.turn hst.2.2 hst.2.1 plt (by omega)⟩)
    (fun A B hs hst => hs.turn hst.2 hst.1 plt (by omega))
    (fun k x A B i o hs hst hi ho hc => (hst.2.2.block i (Array.getElem?_eq_some_iff.1 ho).1 (by omega) (by intro e; cases e)).trans ho)
    (fun A B i o hs hst hi ho hc => (hst.2.block i (Array.getElem?_eq_some_iff.1 ho).1 (by omega) (by intro e; cases e)).trans ho)
    ?a1 ?assign ?body ?done
  case assign =>
    intro lp k x W K hK
    gi_wp2
    exact hK
  case body =>
    intro lp k x W hI hk
    obtain ⟨rfl, ⟨v, u1, u2, hrow⟩, uc, un, ur, uk, us⟩ := hI
    have LV := hid (liT_succ (tkI l) l A E k)
    have LN := hid (liT_len (tkI l) l A E k)
    generalize liV (tkI l) l A E k = xv at *
    obtain ⟨v', w1, hrun, hown', hgr, hnil, hplace⟩ := run_append_own_at (P := Try.prog) (W.alloc (.cells #[.int .i64 xv] 3)) (w.heap.size + 3) 28 28 3 i0 (.int .i64 0) 1 8 Try.underlying28 hi hz0 hz1 hz2 rfl (by decide) v k _ (hrow.2.alloc _) ⟨W.heap.size, 0, none⟩ 1 1 [.int .i64 xv] rfl (by
      intro j u hj
      match j, hj with
      | 0, hj => simp at hj; subst hj; simp [Addr.add, go_sem]) (by simp [Value.oneCell']) (by unfold maxLen; omega) (by omega) (by simp; omega)
    obtain ⟨g', cap', rfl⟩ := ownsRow_succ hown'
    rw [appF_eq] at hrun
    have hrowlt : ∀ g, v.ownBlock = some g → w.heap.size + 3 ≤ g := fun g hg => (hrow.lt g hg).1
    have hge : w.heap.size + 3 ≤ g' := (hown'.lt g' rfl).1
    have hblk : ∀ b, b < w.heap.size + 3 → w1.heap[b]? = W.heap[b]? := fun b hb => by
      rw [hgr.block b (by simp; omega) (fun e => by have := hrowlt _ e.symm; omega)]
      exact Below.heap_alloc _ _ _ (by show b < W.heap.size; omega)
    have x1 : w1.cell? ⟨w.heap.size, 0, none⟩ = some v := (World.cell?_of_block (w := W) (hblk _ (by simp))).trans u1
    have x2 : w1.frozen? ⟨w.heap.size, 0, none⟩ = false := (World.frozen?_of_block (w := W) (hblk _ (by simp))).trans u2
    have hKO : Hid (KeepsOthers W w1) := by
      have h1 : KeepsOthers W (W.alloc (.cells #[.int .i64 xv] 3)) := ⟨by simp, fun k o hk _ => (Below.heap_alloc W _ _ (Array.getElem?_eq_some_iff.1 hk).1).trans hk⟩
      exact h1.trans (keepsOthers_grown hgr (ownsRow_cells (hrow.2.alloc _)))
    have hOb : Hid (∀ b, b < w.heap.size + 3 → b ≠ w.heap.size → (w1.setCell ⟨w.heap.size, 0, none⟩ (.slice (some ⟨g', 0, none⟩) (k + 1) cap')).heap[b]? = W.heap[b]?) := fun b hb hne => (Below.heap_setCell _ _ _ _ hne).trans (hblk b hb)
    have HO : Hid (OwnN (w.heap.size + 3) (w1.setCell ⟨w.heap.size, 0, none⟩ (.slice (some ⟨g', 0, none⟩) (k + 1) cap')) (.slice (some ⟨g', 0, none⟩) (k + 1) cap') (k + 1) (liT (tkI l) l A E (k + 1))) := by
      refine ⟨by rw [liT_len], ?_⟩
      have h1 : (liT (tkI l) l A E (k + 1)).flatMap encN = (liT (tkI l) l A E k).flatMap encN ++ [.int .i64 xv] := by rw [LV.out, List.flatMap_append]; rfl
      rw [h1]
      exact hown'.kept (grownBy_setCell' w1 w.heap.size _) (.inr (by simp [Value.ownBlock]; omega))
    have HG1 : Hid (GaI w.heap.size (w.heap.size + 3) p a n c l A E w (k + 1) (lsP (tkI l) l A E (k + 1)) (w1.setCell ⟨w.heap.size, 0, none⟩ (.slice (some ⟨g', 0, none⟩) (k + 1) cap'))) := by
      have hs1 : W.heap.size ≤ w1.heap.size := hKO.out.size
      refine ⟨⟨_, World.cell?_setCell_same' _ _ _ (by rw [x1]; rfl), by rw [World.frozen?_setCell]; exact x2, HO.out⟩, ?_, ?_, ?_, ?_, ?_⟩
      · exact (World.cell?_of_block (w := W) (hOb.out _ (by simp) (by simp))).trans uc
      · exact (World.cell?_of_block (w := W) (hOb.out _ (by simp) (by simp))).trans un
      · exact ur.same (hOb.out _ (by omega) (by omega))
      · refine ⟨?_, ?_, ?_, ?_, fun b hb h1 h2 => (hOb.out b (by omega) (by omega)).trans (uk.block b hb h1 h2), fun _ e => by cases e⟩
        · exact hgr.os.trans uk.os
        · exact hgr.tape.trans uk.tape
        · exact hgr.output.trans uk.output
        · have := uk.size; simp [World.setCell]; omega
      · simp [World.setCell]; omega
    have e1a := keepc ((Below.refl _ W).alloc (Nat.le_refl _) (.cells #[.int .i64 xv] 3)) u1
    clear hgr hown' hrow hnil hblk hrowlt hplace uc un ur uk us hOb HO
    gi_wp2
    exact ⟨(hKO.out.trans (KeepsOthers.setCell _ _ _)).from _, HG1.out⟩
  case done =>
    rintro D W hD hI hK
    obtain ⟨⟨v, u1, u2, hrow⟩, uc, un, ur, uk, us⟩ := hI
    gi_wp2
    refine ⟨by simp, .inl ⟨_, _, rfl, run_takeDeferred hK, ?_⟩⟩
    have hgO := grownBy_putObj' W D (.deferred none)
    have hrO : ∀ r, some D = some r → ∃ o : Obj, W.heap[r]? = some o ∧ o.isCells = false := fun r e => by cases e; exact ⟨_, hK, rfl⟩
    refine ⟨_, results_tmp rfl _ _ _, v, rfl, ?_, ur.own hgO hrO, uk.own (S := w.heap.size + 3) hgO (fun r e => by cases e; omega) (by omega)⟩
    have := (hrow.own hgO hrO).weaken (b' := w.heap.size) (by omega)
    rwa [liT_all] at this

theorem listI_any (p : Nat) (a : Option Addr) (n c : Nat) (l : List Int) (A E : Int) (w : World) (h : RdC w p (.slice a n c) A E) (hl : HoldsB w a n c l) (h0 : 0 ≤ A) (h1 : A ≤ n) (hne : ∀ b o, a = some ⟨b, o, none⟩ → 0 < n → b ≠ p) :
    Calls Try.prog 90 #[.pointer (some ⟨p, 0, none⟩), .func (.func 86) #[.pointer (some ⟨p, 0, none⟩)] #[]] w fun e w' => ∃ v, e = .returned v ∧ OwnN w.heap.size w' v (liC (tkI l) l A E) (liL (tkI l) l A E) ∧ RdC w' p (.slice a n c) (liF (tkI l) l A E).1 (liF (tkI l) l A E).2 ∧ RK p w w' := callsIn_wide.1 (listI_in p a n c l A E w h hl h0 h1 hne)

end Go.Proofs.Ythkbddnkcljjpaa

namespace Go.Proofs.Ythkbddnkcljjpaa
open Go.RowKit Go.Deep
set_option linter.unusedVariables false
set_option linter.unusedSimpArgs false

/-- The k-th of the numbers that are taken one behind another. -/
def tkc (l : List Int) (A E : Int) : Nat → Int × Int × Int
  | 0 => tkI l A E
  | k + 1 => tkI l (tkc l A E k).2.1 (tkc l A E k).2.2
theorem tkc_at (l : List Int) (A E : Int) (h0 : 0 ≤ A) (h1 : A ≤ l.length) : ∀ k, 0 ≤ (tkc l A E k).2.1 ∧ (tkc l A E k).2.1 ≤ l.length
  | 0 => tkI_at l A E h0 h1
  | k + 1 => by have h := tkc_at l A E h0 h1 k; exact tkI_at l _ _ h.1 h.2
theorem Box.rk {p Q : Nat} {A B : World} {cs : Array Value} (h : Box A Q cs) (k : RK p A B) (h1 : Q ≠ p) : Box B Q cs := fun i x e => k.keep (h i x e) h1
theorem RK.frs {p Q : Nat} {A B : World} (k : RK p A B) (h : ∀ j, A.frozen? ⟨Q, j, none⟩ = false) (hq : Q < A.heap.size) (h1 : Q ≠ p) : ∀ j, B.frozen? ⟨Q, j, none⟩ = false :=
  fun j => (World.frozen?_of_block (a := ⟨Q, j, none⟩) (k.block Q hq h1 (by intro e; cases e))).trans (h j)
set_option maxRecDepth 100000 in
set_option maxHeartbeats 8000000 in
theorem rdnode_any (p : Nat) (a : Option Addr) (n c : Nat) (l : List Int) (A E : Int) (w : World) (h : RdC w p (.slice a n c) A E) (hl : HoldsB w a n c l) (h0 : 0 ≤ A) (h1 : A ≤ n) (hne : ∀ b o, a = some ⟨b, o, none⟩ → 0 < n → b ≠ p) :
    Calls Try.prog 97 #[.pointer (some ⟨p, 0, none⟩)] w fun e w' => e = .returned (.agg #[.int .i64 (tkc l A E 0).1, .int .i64 (tkc l A E 1).1, .int .i64 (tkc l A E 2).1, .int .i64 (tkc l A E 3).1, .int .i64 (tkc l A E 4).1]) ∧ RdC w' p (.slice a n c) (tkc l A E 4).2.1 (tkc l A E 4).2.2 ∧ RK p w w' := by
  have hlen := hl.1
  have hcap := hl.2.1
  have hcm := hl.2.2.1
  have hP := h.lt
  have AT := hid (tkc_at l A E h0 (by omega))
  go_enter Try.func97, Try.ntmps97
  go_upto_region 1 with fail
  have B0 := (Below.refl w.heap.size w).alloc (Nat.le_refl _) (.cells #[.int .i64 0, .int .i64 0, .int .i64 0, .int .i64 0, .int .i64 0] 27)
  have H0 := hid (h.below B0)
  have L0 := hid (hl.below B0)
  have K0 : Hid (RK p w (w.alloc (.cells #[.int .i64 0, .int .i64 0, .int .i64 0, .int .i64 0, .int .i64 0] 27))) := WK.of_below B0
  have BX := hid (Box.alloc w #[.int .i64 0, .int .i64 0, .int .i64 0, .int .i64 0, .int .i64 0] (27))
  have FR : Hid (∀ j, (w.alloc (.cells #[.int .i64 0, .int .i64 0, .int .i64 0, .int .i64 0, .int .i64 0] 27)).frozen? ⟨w.heap.size, j, none⟩ = false) := fun j => by simp [go_sem]
  have hQ : w.heap.size ≠ p := by omega
  have hQl : w.heap.size < (w.alloc (.cells #[.int .i64 0, .int .i64 0, .int .i64 0, .int .i64 0, .int .i64 0] 27)).heap.size := by simp
  have HQl := hid hQl
  clear h hl B0 hP hQl
  generalize (w.alloc (.cells #[.int .i64 0, .int .i64 0, .int .i64 0, .int .i64 0, .int .i64 0] 27)) = W0 at *
  generalize hq : w.heap.size = QB at *
  have C0 : Hid (Calls Try.prog 86 #[.pointer (some ⟨p, 0, none⟩)] W0 fun e w' => e = .returned (.int .i64 (tkc l A E 0).1) ∧ RdC w' p (.slice a n c) (tkc l A E 0).2.1 (tkc l A E 0).2.2 ∧ RK p W0 w') := rint_any p a n c l A E W0 H0.out L0.out ⟨by omega, by omega⟩ hne
  go_wp2_with fail
  with_reducible refine C0.out.mono ?_
  rintro e W1 ⟨rfl, r0, k0⟩
  have H1 := hid r0
  have L1 := hid (k0.holds L0.out hne)
  replace FR := hid (k0.frs FR.out HQl.out hQ)
  replace BX := hid (BX.out.rk k0 hQ)
  replace HQl := hid (Nat.lt_of_lt_of_le HQl.out k0.size)
  have K1 := hid (K0.out.trans k0)
  clear C0 r0 k0 H0 L0 K0
  have C1 : Hid (Calls Try.prog 86 #[.pointer (some ⟨p, 0, none⟩)] W1 fun e w' => e = .returned (.int .i64 (tkc l A E 1).1) ∧ RdC w' p (.slice a n c) (tkc l A E 1).2.1 (tkc l A E 1).2.2 ∧ RK p W1 w') := rint_any p a n c l (tkc l A E 0).2.1 (tkc l A E 0).2.2 W1 H1.out L1.out ⟨by have := AT.out 0; omega, by have := AT.out 0; omega⟩ hne
  go_wp2_with fail
  with_reducible refine C1.out.mono ?_
  rintro e W2 ⟨rfl, r1, k1⟩
  have H2 := hid r1
  have L2 := hid (k1.holds L1.out hne)
  replace FR := hid (k1.frs FR.out HQl.out hQ)
  replace BX := hid (BX.out.rk k1 hQ)
  replace HQl := hid (Nat.lt_of_lt_of_le HQl.out k1.size)
  have K2 := hid (K1.out.trans k1)
  clear C1 r1 k1 H1 L1 K1
  have C2 : Hid (Calls Try.prog 85 #[.pointer (some ⟨p, 0, none⟩)] W2 fun e w' => e = .returned (.int .i64 (tkc l A E 2).1) ∧ RdC w' p (.slice a n c) (tkc l A E 2).2.1 (tkc l A E 2).2.2 ∧ RK p W2 w') := rint64_any p a n c l (tkc l A E 1).2.1 (tkc l A E 1).2.2 W2 H2.out L2.out ⟨by have := AT.out 1; omega, by have := AT.out 1; omega⟩ hne
  go_wp2_with fail
  with_reducible refine C2.out.mono ?_
  rintro e W3 ⟨rfl, r2, k2⟩
  have H3 := hid r2
  have L3 := hid (k2.holds L2.out hne)
  replace FR := hid (k2.frs FR.out HQl.out hQ)
  replace BX := hid (BX.out.rk k2 hQ)
  replace HQl := hid (Nat.lt_of_lt_of_le HQl.out k2.size)
  have K3 := hid (K2.out.trans k2)
  clear C2 r2 k2 H2 L2 K2
  have C3 : Hid (Calls Try.prog 86 #[.pointer (some ⟨p, 0, none⟩)] W3 fun e w' => e = .returned (.int .i64 (tkc l A E 3).1) ∧ RdC w' p (.slice a n c) (tkc l A E 3).2.1 (tkc l A E 3).2.2 ∧ RK p W3 w') := rint_any p a n c l (tkc l A E 2).2.1 (tkc l A E 2).2.2 W3 H3.out L3.out ⟨by have := AT.out 2; omega, by have := AT.out 2; omega⟩ hne
  go_wp2_with fail
  with_reducible refine C3.out.mono ?_
  rintro e W4 ⟨rfl, r3, k3⟩
  have H4 := hid r3
  have L4 := hid (k3.holds L3.out hne)
  replace FR := hid (k3.frs FR.out HQl.out hQ)
  replace BX := hid (BX.out.rk k3 hQ)
  replace HQl := hid (Nat.lt_of_lt_of_le HQl.out k3.size)
  have K4 := hid (K3.out.trans k3)
  clear C3 r3 k3 H3 L3 K3
  have C4 : Hid (Calls Try.prog 86 #[.pointer (some ⟨p, 0, none⟩)] W4 fun e w' => e = .returned (.int .i64 (tkc l A E 4).1) ∧ RdC w' p (.slice a n c) (tkc l A E 4).2.1 (tkc l A E 4).2.2 ∧ RK p W4 w') := rint_any p a n c l (tkc l A E 3).2.1 (tkc l A E 3).2.2 W4 H4.out L4.out ⟨by have := AT.out 3; omega, by have := AT.out 3; omega⟩ hne
  go_wp2_with fail
  with_reducible refine C4.out.mono ?_
  rintro e W5 ⟨rfl, r4, k4⟩
  have H5 := hid r4
  have L5 := hid (k4.holds L4.out hne)
  replace FR := hid (k4.frs FR.out HQl.out hQ)
  replace BX := hid (BX.out.rk k4 hQ)
  replace HQl := hid (Nat.lt_of_lt_of_le HQl.out k4.size)
  have K5 := hid (K4.out.trans k4)
  clear C4 r4 k4 H4 L4 K4
  generalize hx0 : (tkc l A E 0).1 = x0 at *
  have X0 := hid hx0
  clear hx0
  generalize hx1 : (tkc l A E 1).1 = x1 at *
  have X1 := hid hx1
  clear hx1
  generalize hx2 : (tkc l A E 2).1 = x2 at *
  have X2 := hid hx2
  clear hx2
  generalize hx3 : (tkc l A E 3).1 = x3 at *
  have X3 := hid hx3
  clear hx3
  generalize hx4 : (tkc l A E 4).1 = x4 at *
  have X4 := hid hx4
  clear hx4
  have y0 := BX.out 0 (.int .i64 0) rfl
  have f0 := FR.out 0
  have y1 := BX.out 1 (.int .i64 0) rfl
  have f1 := FR.out 1
  have y2 := BX.out 2 (.int .i64 0) rfl
  have f2 := FR.out 2
  have y3 := BX.out 3 (.int .i64 0) rfl
  have f3 := FR.out 3
  have y4 := BX.out 4 (.int .i64 0) rfl
  have f4 := FR.out 4
  go_wp2_with fail
  have z0 : (((((W5.setCell ⟨QB, 0, none⟩ (.int .i64 x0)).setCell ⟨QB, 1, none⟩ (.int .i64 x1)).setCell ⟨QB, 2, none⟩ (.int .i64 x2)).setCell ⟨QB, 3, none⟩ (.int .i64 x3)).setCell ⟨QB, 4, none⟩ (.int .i64 x4)).cell? ⟨QB, 0, none⟩ = some (.int .i64 x0) := by simp [go_sem, y0, y1, y2, y3, y4]
  have z1 : (((((W5.setCell ⟨QB, 0, none⟩ (.int .i64 x0)).setCell ⟨QB, 1, none⟩ (.int .i64 x1)).setCell ⟨QB, 2, none⟩ (.int .i64 x2)).setCell ⟨QB, 3, none⟩ (.int .i64 x3)).setCell ⟨QB, 4, none⟩ (.int .i64 x4)).cell? ⟨QB, 1, none⟩ = some (.int .i64 x1) := by simp [go_sem, y0, y1, y2, y3, y4]
  have z2 : (((((W5.setCell ⟨QB, 0, none⟩ (.int .i64 x0)).setCell ⟨QB, 1, none⟩ (.int .i64 x1)).setCell ⟨QB, 2, none⟩ (.int .i64 x2)).setCell ⟨QB, 3, none⟩ (.int .i64 x3)).setCell ⟨QB, 4, none⟩ (.int .i64 x4)).cell? ⟨QB, 2, none⟩ = some (.int .i64 x2) := by simp [go_sem, y0, y1, y2, y3, y4]
  have z3 : (((((W5.setCell ⟨QB, 0, none⟩ (.int .i64 x0)).setCell ⟨QB, 1, none⟩ (.int .i64 x1)).setCell ⟨QB, 2, none⟩ (.int .i64 x2)).setCell ⟨QB, 3, none⟩ (.int .i64 x3)).setCell ⟨QB, 4, none⟩ (.int .i64 x4)).cell? ⟨QB, 3, none⟩ = some (.int .i64 x3) := by simp [go_sem, y0, y1, y2, y3, y4]
  have z4 : (((((W5.setCell ⟨QB, 0, none⟩ (.int .i64 x0)).setCell ⟨QB, 1, none⟩ (.int .i64 x1)).setCell ⟨QB, 2, none⟩ (.int .i64 x2)).setCell ⟨QB, 3, none⟩ (.int .i64 x3)).setCell ⟨QB, 4, none⟩ (.int .i64 x4)).cell? ⟨QB, 4, none⟩ = some (.int .i64 x4) := by simp [go_sem, y0, y1, y2, y3, y4]
  refine bodyPost_ret (v := .agg #[.int .i64 x0, .int .i64 x1, .int .i64 x2, .int .i64 x3, .int .i64 x4]) (by simp [results, Try.results97, go_sem, y0, y1, y2, y3, y4, z0, z1, z2, z3, z4]) rfl ?_
  obtain ⟨⟨q0, q1, q2⟩, u0, u1, u2⟩ := H5.out
  have nq : QB ≠ p := hQ
  have nq' : p ≠ QB := fun e => hQ e.symm
  refine ⟨by rw [X0.out, X1.out, X2.out, X3.out, X4.out], ⟨⟨?_, ?_, ?_⟩, ?_, ?_, ?_⟩, ?_⟩
  · simp [go_sem, q0, nq, nq']
  · simp [go_sem, q1, nq, nq']
  · simp [go_sem, q2, nq, nq']
  · simp [go_sem, u0]
  · simp [go_sem, u1]
  · simp [go_sem, u2]
  · exact (((((K5.out.set QB 0 _ (by omega)).set QB 1 _ (by omega)).set QB 2 _ (by omega)).set QB 3 _ (by omega)).set QB 4 _ (by omega))
set_option maxRecDepth 100000 in
set_option maxHeartbeats 8000000 in
theorem rdqueue_any (p : Nat) (a : Option Addr) (n c : Nat) (l : List Int) (A E : Int) (w : World) (h : RdC w p (.slice a n c) A E) (hl : HoldsB w a n c l) (h0 : 0 ≤ A) (h1 : A ≤ n) (hne : ∀ b o, a = some ⟨b, o, none⟩ → 0 < n → b ≠ p) :
    Calls Try.prog 95 #[.pointer (some ⟨p, 0, none⟩)] w fun e w' => e = .returned (.agg #[.int .i64 (tkc l A E 0).1, .int .i64 (tkc l A E 1).1, .int .i64 (tkc l A E 2).1, .int .i64 (tkc l A E 3).1, .int .i64 (tkc l A E 4).1, .int .i64 (tkc l A E 5).1, .int .i64 (tkc l A E 6).1]) ∧ RdC w' p (.slice a n c) (tkc l A E 6).2.1 (tkc l A E 6).2.2 ∧ RK p w w' := by
  have hlen := hl.1
  have hcap := hl.2.1
  have hcm := hl.2.2.1
  have hP := h.lt
  have AT := hid (tkc_at l A E h0 (by omega))
  go_enter Try.func95, Try.ntmps95
  go_upto_region 1 with fail
  have B0 := (Below.refl w.heap.size w).alloc (Nat.le_refl _) (.cells #[.int .i64 0, .int .i64 0, .int .i64 0, .int .i64 0, .int .i64 0, .int .i64 0, .int .i64 0] 25)
  have H0 := hid (h.below B0)
  have L0 := hid (hl.below B0)
  have K0 : Hid (RK p w (w.alloc (.cells #[.int .i64 0, .int .i64 0, .int .i64 0, .int .i64 0, .int .i64 0, .int .i64 0, .int .i64 0] 25))) := WK.of_below B0
  have BX := hid (Box.alloc w #[.int .i64 0, .int .i64 0, .int .i64 0, .int .i64 0, .int .i64 0, .int .i64 0, .int .i64 0] (25))
  have FR : Hid (∀ j, (w.alloc (.cells #[.int .i64 0, .int .i64 0, .int .i64 0, .int .i64 0, .int .i64 0, .int .i64 0, .int .i64 0] 25)).frozen? ⟨w.heap.size, j, none⟩ = false) := fun j => by simp [go_sem]
  have hQ : w.heap.size ≠ p := by omega
  have hQl : w.heap.size < (w.alloc (.cells #[.int .i64 0, .int .i64 0, .int .i64 0, .int .i64 0, .int .i64 0, .int .i64 0, .int .i64 0] 25)).heap.size := by simp
  have HQl := hid hQl
  clear h hl B0 hP hQl
  generalize (w.alloc (.cells #[.int .i64 0, .int .i64 0, .int .i64 0, .int .i64 0, .int .i64 0, .int .i64 0, .int .i64 0] 25)) = W0 at *
  generalize hq : w.heap.size = QB at *
  have C0 : Hid (Calls Try.prog 86 #[.pointer (some ⟨p, 0, none⟩)] W0 fun e w' => e = .returned (.int .i64 (tkc l A E 0).1) ∧ RdC w' p (.slice a n c) (tkc l A E 0).2.1 (tkc l A E 0).2.2 ∧ RK p W0 w') := rint_any p a n c l A E W0 H0.out L0.out ⟨by omega, by omega⟩ hne
  go_wp2_with fail
  with_reducible refine C0.out.mono ?_
  rintro e W1 ⟨rfl, r0, k0⟩
  have H1 := hid r0
  have L1 := hid (k0.holds L0.out hne)
  replace FR := hid (k0.frs FR.out HQl.out hQ)
  replace BX := hid (BX.out.rk k0 hQ)
  replace HQl := hid (Nat.lt_of_lt_of_le HQl.out k0.size)
  have K1 := hid (K0.out.trans k0)
  clear C0 r0 k0 H0 L0 K0
  have C1 : Hid (Calls Try.prog 86 #[.pointer (some ⟨p, 0, none⟩)] W1 fun e w' => e = .returned (.int .i64 (tkc l A E 1).1) ∧ RdC w' p (.slice a n c) (tkc l A E 1).2.1 (tkc l A E 1).2.2 ∧ RK p W1 w') := rint_any p a n c l (tkc l A E 0).2.1 (tkc l A E 0).2.2 W1 H1.out L1.out ⟨by have := AT.out 0; omega, by have := AT.out 0; omega⟩ hne
  go_wp2_with fail
  with_reducible refine C1.out.mono ?_
  rintro e W2 ⟨rfl, r1, k1⟩
  have H2 := hid r1
  have L2 := hid (k1.holds L1.out hne)
  replace FR := hid (k1.frs FR.out HQl.out hQ)
  replace BX := hid (BX.out.rk k1 hQ)
  replace HQl := hid (Nat.lt_of_lt_of_le HQl.out k1.size)
  have K2 := hid (K1.out.trans k1)
  clear C1 r1 k1 H1 L1 K1
  have C2 : Hid (Calls Try.prog 85 #[.pointer (some ⟨p, 0, none⟩)] W2 fun e w' => e = .returned (.int .i64 (tkc l A E 2).1) ∧ RdC w' p (.slice a n c) (tkc l A E 2).2.1 (tkc l A E 2).2.2 ∧ RK p W2 w') := rint64_any p a n c l (tkc l A E 1).2.1 (tkc l A E 1).2.2 W2 H2.out L2.out ⟨by have := AT.out 1; omega, by have := AT.out 1; omega⟩ hne
  go_wp2_with fail
  with_reducible refine C2.out.mono ?_
  rintro e W3 ⟨rfl, r2, k2⟩
  have H3 := hid r2
  have L3 := hid (k2.holds L2.out hne)
  replace FR := hid (k2.frs FR.out HQl.out hQ)
  replace BX := hid (BX.out.rk k2 hQ)
  replace HQl := hid (Nat.lt_of_lt_of_le HQl.out k2.size)
  have K3 := hid (K2.out.trans k2)
  clear C2 r2 k2 H2 L2 K2
  have C3 : Hid (Calls Try.prog 115 #[.pointer (some ⟨p, 0, none⟩)] W3 fun e w' => e = .returned (.agg #[.int .i64 (tkc l A E 3).1, .int .i64 (tkc l A E 4).1]) ∧ RdC w' p (.slice a n c) (tkc l A E 4).2.1 (tkc l A E 4).2.2 ∧ RK p W3 w') := rvec_any p a n c l (tkc l A E 2).2.1 (tkc l A E 2).2.2 W3 H3.out L3.out (by have := AT.out 2; omega) (by have := AT.out 2; omega) hne
  go_wp2_with fail
  with_reducible refine C3.out.mono ?_
  rintro e W4 ⟨rfl, r3, k3⟩
  have H4 := hid r3
  have L4 := hid (k3.holds L3.out hne)
  replace FR := hid (k3.frs FR.out HQl.out hQ)
  replace BX := hid (BX.out.rk k3 hQ)
  replace HQl := hid (Nat.lt_of_lt_of_le HQl.out k3.size)
  have K4 := hid (K3.out.trans k3)
  clear C3 r3 k3 H3 L3 K3
  have C4 : Hid (Calls Try.prog 115 #[.pointer (some ⟨p, 0, none⟩)] W4 fun e w' => e = .returned (.agg #[.int .i64 (tkc l A E 5).1, .int .i64 (tkc l A E 6).1]) ∧ RdC w' p (.slice a n c) (tkc l A E 6).2.1 (tkc l A E 6).2.2 ∧ RK p W4 w') := rvec_any p a n c l (tkc l A E 4).2.1 (tkc l A E 4).2.2 W4 H4.out L4.out (by have := AT.out 4; omega) (by have := AT.out 4; omega) hne
  go_wp2_with fail
  with_reducible refine C4.out.mono ?_
  rintro e W5 ⟨rfl, r4, k4⟩
  have H5 := hid r4
  have L5 := hid (k4.holds L4.out hne)
  replace FR := hid (k4.frs FR.out HQl.out hQ)
  replace BX := hid (BX.out.rk k4 hQ)
  replace HQl := hid (Nat.lt_of_lt_of_le HQl.out k4.size)
  have K5 := hid (K4.out.trans k4)
  clear C4 r4 k4 H4 L4 K4
  generalize hx0 : (tkc l A E 0).1 = x0 at *
  have X0 := hid hx0
  clear hx0
  generalize hx1 : (tkc l A E 1).1 = x1 at *
  have X1 := hid hx1
  clear hx1
  generalize hx2 : (tkc l A E 2).1 = x2 at *
  have X2 := hid hx2
  clear hx2
  generalize hx3 : (tkc l A E 3).1 = x3 at *
  have X3 := hid hx3
  clear hx3
  generalize hx4 : (tkc l A E 4).1 = x4 at *
  have X4 := hid hx4
  clear hx4
  generalize hx5 : (tkc l A E 5).1 = x5 at *
  have X5 := hid hx5
  clear hx5
  generalize hx6 : (tkc l A E 6).1 = x6 at *
  have X6 := hid hx6
  clear hx6
  have y0 := BX.out 0 (.int .i64 0) rfl
  have f0 := FR.out 0
  have y1 := BX.out 1 (.int .i64 0) rfl
  have f1 := FR.out 1
  have y2 := BX.out 2 (.int .i64 0) rfl
  have f2 := FR.out 2
  have y3 := BX.out 3 (.int .i64 0) rfl
  have f3 := FR.out 3
  have y4 := BX.out 4 (.int .i64 0) rfl
  have f4 := FR.out 4
  have y5 := BX.out 5 (.int .i64 0) rfl
  have f5 := FR.out 5
  have y6 := BX.out 6 (.int .i64 0) rfl
  have f6 := FR.out 6
  go_wp2_with fail
  have z0 : (((((((W5.setCell ⟨QB, 0, none⟩ (.int .i64 x0)).setCell ⟨QB, 1, none⟩ (.int .i64 x1)).setCell ⟨QB, 2, none⟩ (.int .i64 x2)).setCell ⟨QB, 3, none⟩ (.int .i64 x3)).setCell ⟨QB, 4, none⟩ (.int .i64 x4)).setCell ⟨QB, 5, none⟩ (.int .i64 x5)).setCell ⟨QB, 6, none⟩ (.int .i64 x6)).cell? ⟨QB, 0, none⟩ = some (.int .i64 x0) := by simp [go_sem, y0, y1, y2, y3, y4, y5, y6]
  have z1 : (((((((W5.setCell ⟨QB, 0, none⟩ (.int .i64 x0)).setCell ⟨QB, 1, none⟩ (.int .i64 x1)).setCell ⟨QB, 2, none⟩ (.int .i64 x2)).setCell ⟨QB, 3, none⟩ (.int .i64 x3)).setCell ⟨QB, 4, none⟩ (.int .i64 x4)).setCell ⟨QB, 5, none⟩ (.int .i64 x5)).setCell ⟨QB, 6, none⟩ (.int .i64 x6)).cell? ⟨QB, 1, none⟩ = some (.int .i64 x1) := by simp [go_sem, y0, y1, y2, y3, y4, y5, y6]
  have z2 : (((((((W5.setCell ⟨QB, 0, none⟩ (.int .i64 x0)).setCell ⟨QB, 1, none⟩ (.int .i64 x1)).setCell ⟨QB, 2, none⟩ (.int .i64 x2)).setCell ⟨QB, 3, none⟩ (.int .i64 x3)).setCell ⟨QB, 4, none⟩ (.int .i64 x4)).setCell ⟨QB, 5, none⟩ (.int .i64 x5)).setCell ⟨QB, 6, none⟩ (.int .i64 x6)).cell? ⟨QB, 2, none⟩ = some (.int .i64 x2) := by simp [go_sem, y0, y1, y2, y3, y4, y5, y6]
  have z3 : (((((((W5.setCell ⟨QB, 0, none⟩ (.int .i64 x0)).setCell ⟨QB, 1, none⟩ (.int .i64 x1)).setCell ⟨QB, 2, none⟩ (.int .i64 x2)).setCell ⟨QB, 3, none⟩ (.int .i64 x3)).setCell ⟨QB, 4, none⟩ (.int .i64 x4)).setCell ⟨QB, 5, none⟩ (.int .i64 x5)).setCell ⟨QB, 6, none⟩ (.int .i64 x6)).cell? ⟨QB, 3, none⟩ = some (.int .i64 x3) := by simp [go_sem, y0, y1, y2, y3, y4, y5, y6]
  have z4 : (((((((W5.setCell ⟨QB, 0, none⟩ (.int .i64 x0)).setCell ⟨QB, 1, none⟩ (.int .i64 x1)).setCell ⟨QB, 2, none⟩ (.int .i64 x2)).setCell ⟨QB, 3, none⟩ (.int .i64 x3)).setCell ⟨QB, 4, none⟩ (.int .i64 x4)).setCell ⟨QB, 5, none⟩ (.int .i64 x5)).setCell ⟨QB, 6, none⟩ (.int .i64 x6)).cell? ⟨QB, 4, none⟩ = some (.int .i64 x4) := by simp [go_sem, y0, y1, y2, y3, y4, y5, y6]
  have z5 : (((((((W5.setCell ⟨QB, 0, none⟩ (.int .i64 x0)).setCell ⟨QB, 1, none⟩ (.int .i64 x1)).setCell ⟨QB, 2, none⟩ (.int .i64 x2)).setCell ⟨QB, 3, none⟩ (.int .i64 x3)).setCell ⟨QB, 4, none⟩ (.int .i64 x4)).setCell ⟨QB, 5, none⟩ (.int .i64 x5)).setCell ⟨QB, 6, none⟩ (.int .i64 x6)).cell? ⟨QB, 5, none⟩ = some (.int .i64 x5) := by simp [go_sem, y0, y1, y2, y3, y4, y5, y6]
  have z6 : (((((((W5.setCell ⟨QB, 0, none⟩ (.int .i64 x0)).setCell ⟨QB, 1, none⟩ (.int .i64 x1)).setCell ⟨QB, 2, none⟩ (.int .i64 x2)).setCell ⟨QB, 3, none⟩ (.int .i64 x3)).setCell ⟨QB, 4, none⟩ (.int .i64 x4)).setCell ⟨QB, 5, none⟩ (.int .i64 x5)).setCell ⟨QB, 6, none⟩ (.int .i64 x6)).cell? ⟨QB, 6, none⟩ = some (.int .i64 x6) := by simp [go_sem, y0, y1, y2, y3, y4, y5, y6]
  refine bodyPost_ret (v := .agg #[.int .i64 x0, .int .i64 x1, .int .i64 x2, .int .i64 x3, .int .i64 x4, .int .i64 x5, .int .i64 x6]) (by simp [results, Try.results95, go_sem, y0, y1, y2, y3, y4, y5, y6, z0, z1, z2, z3, z4, z5, z6]) rfl ?_
  obtain ⟨⟨q0, q1, q2⟩, u0, u1, u2⟩ := H5.out
  have nq : QB ≠ p := hQ
  have nq' : p ≠ QB := fun e => hQ e.symm
  refine ⟨by rw [X0.out, X1.out, X2.out, X3.out, X4.out, X5.out, X6.out], ⟨⟨?_, ?_, ?_⟩, ?_, ?_, ?_⟩, ?_⟩
  · simp [go_sem, q0, nq, nq']
  · simp [go_sem, q1, nq, nq']
  · simp [go_sem, q2, nq, nq']
  · simp [go_sem, u0]
  · simp [go_sem, u1]
  · simp [go_sem, u2]
  · exact (((((((K5.out.set QB 0 _ (by omega)).set QB 1 _ (by omega)).set QB 2 _ (by omega)).set QB 3 _ (by omega)).set QB 4 _ (by omega)).set QB 5 _ (by omega)).set QB 6 _ (by omega))
end Go.Proofs.Ythkbddnkcljjpaa
