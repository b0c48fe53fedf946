/-
  Plain mathematics of strip: shelves, bytes, lists: no Go text, no program in this file.
-/
import Derived.Test.YtpkifcoichjnbaaBase
namespace Go.Proofs.Ytpkifcoichjnbaa
open Go.RowKit

/-- How many numbers a shelf has; where it begins; in which one a number stands. -/
def cnt : Nat → Int
  | 0 => 192
  | 1 => 256
  | 2 => 65536
  | 3 => 16777216
  | 4 => 4294967296
  | 5 => 1099511627776
  | 6 => 281474976710656
  | 7 => 72057594037927936
  | _ => 0
def beg : Nat → Int
  | 0 => 0
  | 1 => 192
  | 2 => 448
  | 3 => 65984
  | 4 => 16843200
  | 5 => 4311810496
  | 6 => 1103823438272
  | 7 => 282578800148928
  | _ => 72340172838076864
def shelf (x : Int) : Nat := if x < 192 then 0 else if x < 448 then 1 else if x < 65984 then 2 else if x < 16843200 then 3 else if x < 4311810496 then 4 else if x < 1103823438272 then 5 else if x < 282578800148928 then 6 else if x < 72340172838076864 then 7 else 8

theorem below8 {P : Nat → Prop} (h0 : P 0) (h1 : P 1) (h2 : P 2) (h3 : P 3) (h4 : P 4) (h5 : P 5) (h6 : P 6) (h7 : P 7) (k : Nat) (hk : k < 8) : P k := by
  match k, hk with
  | 0, _ => exact h0
  | 1, _ => exact h1
  | 2, _ => exact h2
  | 3, _ => exact h3
  | 4, _ => exact h4
  | 5, _ => exact h5
  | 6, _ => exact h6
  | 7, _ => exact h7
theorem upto8 {P : Nat → Prop} (h0 : P 0) (h1 : P 1) (h2 : P 2) (h3 : P 3) (h4 : P 4) (h5 : P 5) (h6 : P 6) (h7 : P 7) (h8 : P 8) (k : Nat) (hk : k ≤ 8) : P k := by
  by_cases e : k = 8
  · rw [e]; exact h8
  · exact below8 h0 h1 h2 h3 h4 h5 h6 h7 k (by omega)

theorem beg_succ (k : Nat) (hk : k < 8) : beg (k + 1) = beg k + cnt k := below8 (P := fun k => beg (k + 1) = beg k + cnt k) (by decide) (by decide) (by decide) (by decide) (by decide) (by decide) (by decide) (by decide) k hk
theorem cnt_bd (k : Nat) (hk : k < 8) : 0 < cnt k ∧ cnt k ≤ 72057594037927936 := below8 (P := fun k => 0 < cnt k ∧ cnt k ≤ 72057594037927936) (by decide) (by decide) (by decide) (by decide) (by decide) (by decide) (by decide) (by decide) k hk
theorem beg_bd (k : Nat) (hk : k ≤ 8) : 0 ≤ beg k ∧ beg k ≤ 72340172838076864 := upto8 (P := fun k => 0 ≤ beg k ∧ beg k ≤ 72340172838076864) (by decide) (by decide) (by decide) (by decide) (by decide) (by decide) (by decide) (by decide) (by decide) k hk
theorem cnt_pow (k : Nat) (hk : k < 8) (h0 : 0 < k) : cnt k = 256 ^ k := by
  refine below8 (P := fun k => 0 < k → cnt k = 256 ^ k) ?_ ?_ ?_ ?_ ?_ ?_ ?_ ?_ k hk h0 <;> intro h <;> first | omega | rfl

theorem shelf_le (x : Int) : shelf x ≤ 8 := by unfold shelf; (repeat' split) <;> omega
theorem shelf_eq {x : Int} (k : Nat) (hk : k ≤ 8) (h1 : beg k ≤ x) (h2 : k < 8 → x < beg (k + 1)) : shelf x = k := by
  refine upto8 (P := fun k => beg k ≤ x → (k < 8 → x < beg (k + 1)) → shelf x = k) ?_ ?_ ?_ ?_ ?_ ?_ ?_ ?_ ?_ k hk h1 h2 <;> intro a b <;> simp [beg] at a b <;> unfold shelf <;> (repeat' split) <;> omega
theorem beg_shelf (x : Int) (h : 0 ≤ x) : beg (shelf x) ≤ x := by
  unfold shelf
  (repeat' split) <;> simp [beg] <;> omega
theorem shelf_lt (x : Int) (h : shelf x < 8) : x < beg (shelf x + 1) := by
  unfold shelf at *
  (repeat' split) <;> simp [beg] <;> simp_all <;> omega
theorem far_bd (x : Int) (h0 : 0 ≤ x) (h1 : x ≤ 18446744073709551615) (hs : 0 < shelf x) : 0 ≤ x - beg (shelf x) ∧ x - beg (shelf x) < 256 ^ shelf x := by
  have a := beg_shelf x h0
  by_cases h8 : shelf x = 8
  · rw [h8] at a ⊢
    simp [beg] at a ⊢
    omega
  · have b := shelf_lt x (by have := shelf_le x; omega)
    rw [beg_succ _ (by have := shelf_le x; omega), cnt_pow _ (by have := shelf_le x; omega) hs] at b
    omega
theorem shelf0 {x : Int} (h : shelf x = 0) : x < 192 := by have := shelf_lt x (by omega); rw [h] at this; simpa [beg] using this
theorem shelf0' {x : Int} (h : x < 192) : shelf x = 0 := by unfold shelf; rw [if_pos h]

/-- A number's bytes: so many, the highest first. -/
def be (k : Nat) (n : Int) : List Int := (List.range k).map fun i => n / 256 ^ (k - 1 - i) % 256
/-- What bytes tell, the highest first. -/
def val (l : List Int) : Int := l.foldl (fun a x => a * 256 + x) 0
/-- A number as it is written. -/
def numB (x : Int) : List Int := if shelf x = 0 then [x] else (191 + (shelf x : Int)) :: be (shelf x) (x - beg (shelf x))

def BB (l : List Int) : Prop := ∀ x ∈ l, 0 ≤ x ∧ x ≤ 255
theorem BB.nil : BB [] := fun x h => by cases h
theorem BB.app {a b : List Int} (h : BB a) (k : BB b) : BB (a ++ b) := fun x hx => (List.mem_append.1 hx).elim (h x) (k x)
theorem BB.left {a b : List Int} (h : BB (a ++ b)) : BB a := fun x hx => h x (List.mem_append_left _ hx)
theorem BB.take {a : List Int} (h : BB a) (n : Nat) : BB (a.take n) := fun x hx => h x (List.mem_of_mem_take hx)
theorem BB.drop {a : List Int} (h : BB a) (n : Nat) : BB (a.drop n) := fun x hx => h x (List.mem_of_mem_drop hx)
theorem BB.one {x : Int} (h0 : 0 ≤ x) (h1 : x ≤ 255) : BB [x] := fun y hy => by simp at hy; subst hy; exact ⟨h0, h1⟩
theorem BB.cons {x : Int} {l : List Int} (h0 : 0 ≤ x) (h1 : x ≤ 255) (h : BB l) : BB (x :: l) := fun y hy => by
  rcases List.mem_cons.1 hy with rfl | hy
  · exact ⟨h0, h1⟩
  · exact h y hy
theorem BB.getD {l : List Int} (h : BB l) (k : Nat) : 0 ≤ l[k]?.getD 0 ∧ l[k]?.getD 0 ≤ 255 := by
  by_cases hk : k < l.length
  · rw [List.getElem?_eq_getElem hk]; exact h _ (List.getElem_mem _)
  · rw [List.getElem?_eq_none (by omega)]; simp
theorem be_len (k : Nat) (n : Int) : (be k n).length = k := by simp [be]
theorem be_BB (k : Nat) (n : Int) : BB (be k n) := fun x hx => by
  simp only [be, List.mem_map] at hx
  obtain ⟨i, _, rfl⟩ := hx
  omega
theorem be_take (k : Nat) (n : Int) (j : Nat) (hj : j < k) : (be k n).take (j + 1) = (be k n).take j ++ [n / 256 ^ (k - 1 - j) % 256] := by
  rw [List.take_succ_eq_append_getElem (by rw [be_len]; exact hj)]
  simp [be]
theorem numB_BB (x : Int) (h0 : 0 ≤ x) : BB (numB x) := by
  unfold numB
  split
  · next h => exact BB.one h0 (by have := shelf0 h; omega)
  · exact BB.cons (by omega) (by have := shelf_le x; omega) (be_BB _ _)
theorem numB_len (x : Int) : (numB x).length = 1 + shelf x := by
  unfold numB
  split
  · next h => simp [h]
  · simp [be_len]; omega

theorem val_snoc (l : List Int) (x : Int) : val (l ++ [x]) = val l * 256 + x := by simp [val]
theorem fold_bd (l : List Int) (acc : Int) (h : BB l) (h0 : 0 ≤ acc) : 0 ≤ l.foldl (fun a x => a * 256 + x) acc ∧ l.foldl (fun a x => a * 256 + x) acc < (acc + 1) * 256 ^ l.length := by
  induction l generalizing acc with
  | nil => simp; omega
  | cons x l ih =>
    have b := h x (by simp)
    have a := ih (acc * 256 + x) (fun y hy => h y (List.mem_cons_of_mem _ hy)) (by omega)
    have p : (0 : Int) ≤ 256 ^ l.length := Int.pow_nonneg (by omega)
    have q : (acc * 256 + x + 1) * 256 ^ l.length ≤ (acc + 1) * 256 * 256 ^ l.length := Int.mul_le_mul_of_nonneg_right (by omega) p
    have r : (acc + 1) * 256 ^ (x :: l).length = (acc + 1) * 256 * 256 ^ l.length := by rw [List.length_cons, Int.pow_succ, Int.mul_comm (256 ^ l.length) 256, Int.mul_assoc]
    rw [List.foldl_cons, r]
    omega
theorem val_bd (l : List Int) (h : BB l) : 0 ≤ val l ∧ val l < 256 ^ l.length := by
  have := fold_bd l 0 h (by omega)
  unfold val
  omega

end Go.Proofs.Ytpkifcoichjnbaa
