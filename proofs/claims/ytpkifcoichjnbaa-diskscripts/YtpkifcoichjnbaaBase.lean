/-
  Plain facts on numbers of 64 bits: no Go text, no program in this file.
-/
import Derived.Below
import Derived.WalkSpells
namespace Go.Proofs.Ytpkifcoichjnbaa
open Go.RowKit

/-- Within int64. -/
def I64 (a : Int) : Prop := -9223372036854775808 ≤ a ∧ a ≤ 9223372036854775807
/-- The number, if it is within int64, else 0. -/
def nv (n : Int) : Int := if -9223372036854775808 ≤ n ∧ n ≤ 9223372036854775807 then n else 0
/-- 0, if the number is within int64, else 2. -/
def ne (n : Int) : Int := if -9223372036854775808 ≤ n ∧ n ≤ 9223372036854775807 then 0 else 2

theorem nv_in {n : Int} (h1 : -9223372036854775808 ≤ n) (h2 : n ≤ 9223372036854775807) : nv n = n := by unfold nv; rw [if_pos ⟨h1, h2⟩]
theorem ne_in {n : Int} (h1 : -9223372036854775808 ≤ n) (h2 : n ≤ 9223372036854775807) : ne n = 0 := by unfold ne; rw [if_pos ⟨h1, h2⟩]
theorem nv_hi {n : Int} (h : 9223372036854775807 < n) : nv n = 0 := by unfold nv; rw [if_neg (by omega)]
theorem ne_hi {n : Int} (h : 9223372036854775807 < n) : ne n = 2 := by unfold ne; rw [if_neg (by omega)]
theorem nv_lo {n : Int} (h : n < -9223372036854775808) : nv n = 0 := by unfold nv; rw [if_neg (by omega)]
theorem ne_lo {n : Int} (h : n < -9223372036854775808) : ne n = 2 := by unfold ne; rw [if_neg (by omega)]
theorem nv_I64 (n : Int) : I64 (nv n) := by unfold nv I64; split <;> omega

theorem ret2 {k l : IntKind} {a b c d : Int} (h : a = c) (g : b = d) : Ending.returned (.tuple #[.int k a, .int l b]) = .returned (.tuple #[.int k c, .int l d]) := by rw [h, g]
theorem ret1 {k : IntKind} {a b : Int} (h : a = b) : Ending.returned (.int k a) = .returned (.int k b) := by rw [h]

theorem retb {a b : Bool} (h : a = b) : Ending.returned (.bool a) = .returned (.bool b) := by rw [h]

/-- The greatest common divisor, as the document has it. -/
def gcdv (a b : Int) : Int := if Nat.gcd a.natAbs b.natAbs = 9223372036854775808 then 0 else (Nat.gcd a.natAbs b.natAbs : Int)

theorem hid {p : Prop} (h : p) : Hid p := h

theorem natAbs_le {a : Int} (ha : I64 a) : a.natAbs ≤ 9223372036854775808 := by unfold I64 at ha; omega

theorem bcell {W w1 : World} (hb : Below W.heap.size W w1) : (∀ b o, b < W.heap.size → w1.cell? ⟨b, o, none⟩ = W.cell? ⟨b, o, none⟩) ∧ (∀ b o, b < W.heap.size → w1.frozen? ⟨b, o, none⟩ = W.frozen? ⟨b, o, none⟩) :=
  ⟨fun b o h => hb.cell (p := ⟨b, o, none⟩) h, fun b o h => hb.frozen (p := ⟨b, o, none⟩) h⟩

theorem keepc {W w1 : World} (hb : Below W.heap.size W w1) {a : Addr} {v : Value} (h : W.cell? a = some v) : w1.cell? a = some v := cell_later hb h
theorem cell_lt {W : World} {a : Addr} {v : Value} (h : W.cell? a = some v) : a.block < W.heap.size := by
  apply Classical.byContradiction
  intro hn
  have : W.heap[a.block]? = none := by simp; omega
  simp [World.cell?, this] at h
theorem keepf {W w1 : World} (hb : Below W.heap.size W w1) {a : Addr} {v : Value} (h : W.cell? a = some v) (hf : W.frozen? a = false) : w1.frozen? a = false := (hb.frozen (cell_lt h)).trans hf

end Go.Proofs.Ytpkifcoichjnbaa
