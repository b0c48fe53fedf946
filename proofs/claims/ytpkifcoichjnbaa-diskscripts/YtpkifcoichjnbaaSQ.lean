/-
  Plain mathematics of strip: the order of bytes; what was laid is read; one turned byte is put right. No Go text is walked here.
-/
import Derived.Test.YtpkifcoichjnbaaSP
namespace Go.Proofs.Ytpkifcoichjnbaa
open Go.RowKit

/-- Does one list of bytes stand ahead of another one, and doesn't begin it? -/
def lex : List Int → List Int → Bool
  | x :: a, y :: b => if x = y then lex a b else decide (x < y)
  | _, _ => false

theorem be_cons (k : Nat) (n : Int) : be (k + 1) n = n / 256 ^ k % 256 :: be k n := by
  unfold be
  rw [List.range_succ_eq_map]
  simp only [List.map_cons, List.map_map]
  congr 1
  apply List.map_congr_left
  intro i hi
  have := List.mem_range.1 hi
  simp only [Function.comp_apply]
  rw [show k + 1 - 1 - i.succ = k - 1 - i by omega]
theorem pow_pos (k : Nat) : (0 : Int) < 256 ^ k := Int.pow_pos (by omega)
theorem mod_step (n : Int) (k : Nat) : n % 256 ^ (k + 1) = n / 256 ^ k % 256 * 256 ^ k + n % 256 ^ k := by
  have c0 := pow_pos k
  rw [Int.pow_succ]
  generalize (256 : Int) ^ k = c at *
  have e1 := Int.mul_ediv_add_emod n c
  have e2 := Int.mul_ediv_add_emod (n / c) 256
  have r0 := Int.emod_nonneg n (show c ≠ 0 by omega)
  have r1 := Int.emod_lt_of_pos n c0
  have b0 : 0 ≤ n / c % 256 := by omega
  have b1 : n / c % 256 ≤ 255 := by omega
  have m0 : 0 ≤ n / c % 256 * c := Int.mul_nonneg b0 (by omega)
  have m1 : n / c % 256 * c ≤ 255 * c := Int.mul_le_mul_of_nonneg_right b1 (by omega)
  have key : n = n / c % 256 * c + n % c + c * 256 * (n / c / 256) := by
    have : c * (n / c) = n / c % 256 * c + c * 256 * (n / c / 256) := by
      rw [Int.mul_assoc, Int.mul_comm (n / c % 256) c, ← Int.mul_add]
      congr 1
      omega
    omega
  calc n % (c * 256) = (n / c % 256 * c + n % c + c * 256 * (n / c / 256)) % (c * 256) := by rw [← key]
    _ = (n / c % 256 * c + n % c) % (c * 256) := by rw [Int.add_mul_emod_self_left]
    _ = n / c % 256 * c + n % c := Int.emod_eq_of_lt (by omega) (by omega)

theorem lex_be (k : Nat) (a b : Int) : lex (be k a) (be k b) = decide (a % 256 ^ k < b % 256 ^ k) := by
  induction k with
  | zero => simp [be, lex, Int.emod_one]
  | succ k ih =>
    rw [be_cons, be_cons, mod_step a, mod_step b]
    unfold lex
    rw [ih]
    have c0 := pow_pos k
    have a0 := Int.emod_nonneg a (show (256 : Int) ^ k ≠ 0 by omega)
    have a1 := Int.emod_lt_of_pos a c0
    have b0 := Int.emod_nonneg b (show (256 : Int) ^ k ≠ 0 by omega)
    have b1 := Int.emod_lt_of_pos b c0
    generalize (256 : Int) ^ k = c at *
    generalize a / c % 256 = x
    generalize b / c % 256 = y
    generalize a % c = r at *
    generalize b % c = s at *
    by_cases h : x = y
    · rw [if_pos h, h, Bool.eq_iff_iff]; simp
    · rw [if_neg h, Bool.eq_iff_iff]
      simp only [decide_eq_true_eq]
      constructor
      · intro hl
        have : (x + 1) * c ≤ y * c := Int.mul_le_mul_of_nonneg_right (by omega) (by omega)
        rw [Int.add_mul, Int.one_mul] at this
        omega
      · intro hl
        refine Int.not_le.1 fun hy => ?_
        have : (y + 1) * c ≤ x * c := Int.mul_le_mul_of_nonneg_right (by omega) (by omega)
        rw [Int.add_mul, Int.one_mul] at this
        omega

theorem beg_mono (i d : Nat) (h : i + d ≤ 8) : beg i ≤ beg (i + d) := by
  induction d with
  | zero => exact Int.le_refl _
  | succ d ih =>
    have := ih (by omega)
    rw [show i + (d + 1) = i + d + 1 by omega, beg_succ (i + d) (by omega)]
    have := cnt_bd (i + d) (by omega)
    omega
theorem shelf_mono {x y : Int} (x0 : 0 ≤ x) (h : x ≤ y) : shelf x ≤ shelf y := by
  refine Nat.le_of_not_lt fun hl => ?_
  have sx := shelf_le x
  have a := shelf_lt y (by omega)
  have b := beg_shelf x x0
  have c := beg_mono (shelf y + 1) (shelf x - (shelf y + 1)) (by omega)
  rw [show shelf y + 1 + (shelf x - (shelf y + 1)) = shelf x by omega] at c
  omega
theorem lex_numB {x y : Int} (x0 : 0 ≤ x) (x1 : x ≤ 18446744073709551615) (y0 : 0 ≤ y) (y1 : y ≤ 18446744073709551615) : lex (numB x) (numB y) = decide (x < y) := by
  by_cases hx : shelf x = 0
  · have a := shelf0 hx
    by_cases hy : shelf y = 0
    · have b := shelf0 hy
      have e1 : numB x = [x] := by unfold numB; rw [if_pos hx]
      have e2 : numB y = [y] := by unfold numB; rw [if_pos hy]
      rw [e1, e2]
      unfold lex
      by_cases h : x = y
      · rw [if_pos h, h]; simp [lex]
      · rw [if_neg h]
    · have b : 192 ≤ y := by refine Int.not_lt.1 fun h => hy (shelf0' h)
      have e1 : numB x = [x] := by unfold numB; rw [if_pos hx]
      have e2 : numB y = (191 + (shelf y : Int)) :: be (shelf y) (y - beg (shelf y)) := by unfold numB; rw [if_neg hy]
      rw [e1, e2]
      unfold lex
      rw [if_neg (by omega), Bool.eq_iff_iff]
      simp
      omega
  · have a : 192 ≤ x := by refine Int.not_lt.1 fun h => hx (shelf0' h)
    have e1 : numB x = (191 + (shelf x : Int)) :: be (shelf x) (x - beg (shelf x)) := by unfold numB; rw [if_neg hx]
    by_cases hy : shelf y = 0
    · have b := shelf0 hy
      have e2 : numB y = [y] := by unfold numB; rw [if_pos hy]
      rw [e1, e2]
      unfold lex
      rw [if_neg (by omega), Bool.eq_iff_iff]
      simp
      omega
    · have e2 : numB y = (191 + (shelf y : Int)) :: be (shelf y) (y - beg (shelf y)) := by unfold numB; rw [if_neg hy]
      rw [e1, e2]
      unfold lex
      by_cases h : shelf x = shelf y
      · have fx := far_bd x x0 x1 (by omega)
        have fy := far_bd y y0 y1 (by omega)
        rw [if_pos (by omega)]
        rw [h] at fx ⊢
        rw [lex_be, Int.emod_eq_of_lt fx.1 fx.2, Int.emod_eq_of_lt fy.1 fy.2, Bool.eq_iff_iff]
        simp
      · rw [if_neg (by omega), Bool.eq_iff_iff]
        simp only [decide_eq_true_eq]
        constructor
        · intro hl
          refine Int.not_le.1 fun hc => ?_
          have := shelf_mono y0 hc
          omega
        · intro hl
          have := shelf_mono x0 (Int.le_of_lt hl)
          omega
theorem lex_self (l : List Int) : lex l l = false := by
  induction l with
  | nil => rfl
  | cons x l ih => unfold lex; rw [if_pos rfl]; exact ih
theorem numB_inj {x y : Int} (x0 : 0 ≤ x) (x1 : x ≤ 18446744073709551615) (y0 : 0 ≤ y) (y1 : y ≤ 18446744073709551615) : decide (numB x = numB y) = decide (x = y) := by
  rw [Bool.eq_iff_iff]
  simp only [decide_eq_true_eq]
  refine ⟨fun h => ?_, fun h => by rw [h]⟩
  have a := lex_numB x0 x1 y0 y1
  have b := lex_numB y0 y1 x0 x1
  rw [h, lex_self] at a
  rw [← h, lex_self] at b
  have a := of_decide_eq_false a.symm
  have b := of_decide_eq_false b.symm
  omega

theorem fold_lin (l : List Int) (a : Int) : l.foldl (fun a x => a * 256 + x) a = a * 256 ^ l.length + val l := by
  induction l generalizing a with
  | nil => simp [val]
  | cons x l ih =>
    have : val (x :: l) = x * 256 ^ l.length + val l := by
      unfold val; rw [List.foldl_cons, ih, ih 0]; simp [val]
    rw [List.foldl_cons, ih, this, List.length_cons, Int.pow_succ, Int.add_mul, Int.mul_assoc, Int.mul_comm 256]
    omega
theorem val_cons (x : Int) (l : List Int) : val (x :: l) = x * 256 ^ l.length + val l := by
  have := fold_lin l x
  unfold val
  rw [List.foldl_cons]
  simpa [val] using this
theorem val_be (k : Nat) (n : Int) : val (be k n) = n % 256 ^ k := by
  induction k with
  | zero => simp [be, val, Int.emod_one]
  | succ k ih => rw [be_cons, val_cons, ih, be_len, mod_step]

theorem rd_numB (pre suf : List Int) (x : Int) (x0 : 0 ≤ x) (x1 : x ≤ 18446744073709551615) : rd (pre ++ (numB x ++ suf)) pre.length = (x, (pre.length : Int) + (1 + shelf x), 0) := by
  have hl : (pre ++ (numB x ++ suf)).length = pre.length + (1 + shelf x + suf.length) := by simp [numB_len]
  have hs := shelf_le x
  unfold rd
  rw [hl, if_neg (by omega), if_neg (by omega)]
  have hg : (pre ++ (numB x ++ suf))[((pre.length : Nat) : Int).toNat]?.getD 0 = (numB x ++ suf)[0]?.getD 0 := by
    rw [Int.toNat_natCast, List.getElem?_append_right (Nat.le_refl _), Nat.sub_self]
  rw [hg]
  by_cases hx : shelf x = 0
  · have a := shelf0 hx
    have e1 : numB x = [x] := by unfold numB; rw [if_pos hx]
    rw [e1, hx]
    simp [a]
  · have fx := far_bd x x0 x1 (by omega)
    have e1 : numB x = (191 + (shelf x : Int)) :: be (shelf x) (x - beg (shelf x)) := by unfold numB; rw [if_neg hx]
    have h0 : (numB x ++ suf)[0]?.getD 0 = 191 + (shelf x : Int) := by rw [e1]; rfl
    rw [h0, if_neg (by omega), if_neg (by omega), if_neg (by omega)]
    have e2 : (191 + (shelf x : Int) - 191).toNat = shelf x := by omega
    have e3 : ((pre ++ (numB x ++ suf)).drop (((pre.length : Nat) : Int).toNat + 1)).take (shelf x) = be (shelf x) (x - beg (shelf x)) := by
      rw [Int.toNat_natCast, List.drop_append, List.drop_of_length_le (by omega), show pre.length + 1 - pre.length = 1 by omega, e1, List.nil_append]
      simp [be_len]
    rw [e2, e3, val_be, Int.emod_eq_of_lt fx.1 fx.2, if_neg (by omega)]
    simp
    omega

end Go.Proofs.Ytpkifcoichjnbaa
