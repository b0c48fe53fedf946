/-
  Clients that share quanta: what each one gets; plain mathematics, no program.
-/
import Derived.Test.YtdenhpclopjjgaaGB
namespace Go.Proofs.Ytdenhpclopjjgaa
open Go.RowKit
set_option linter.unusedVariables false

/-- The sum of a function over the first k places. -/
def sm (f : Nat → Int) : Nat → Int
  | 0 => 0
  | k + 1 => sm f k + f k
theorem sm_add (f g : Nat → Int) (k : Nat) : sm (fun i => f i + g i) k = sm f k + sm g k := by
  induction k with
  | zero => rfl
  | succ k ih => simp only [sm, ih]; omega
theorem sm_mul (c : Int) (f : Nat → Int) (k : Nat) : sm (fun i => c * f i) k = c * sm f k := by
  induction k with
  | zero => simp [sm]
  | succ k ih => simp only [sm, ih, Int.mul_add]
theorem sm_congr {f g : Nat → Int} {k : Nat} (h : ∀ i, i < k → f i = g i) : sm f k = sm g k := by
  induction k with
  | zero => rfl
  | succ k ih => simp only [sm]; rw [ih (fun i hi => h i (by omega)), h k (by omega)]
theorem sm_le {f g : Nat → Int} {k : Nat} (h : ∀ i, i < k → f i ≤ g i) : sm f k ≤ sm g k := by
  induction k with
  | zero => exact Int.le_refl _
  | succ k ih =>
    simp only [sm]
    have := ih (fun i hi => h i (by omega))
    have := h k (by omega)
    omega
theorem sm_const (c : Int) (k : Nat) : sm (fun _ => c) k = c * k := by
  induction k with
  | zero => simp [sm]
  | succ k ih => simp only [sm, ih]; rw [Int.natCast_succ, Int.mul_add]; simp
/-- One place taken out. -/
theorem sm_one {f : Nat → Int} {k i : Nat} (h : i < k) : sm f k = f i + sm (fun j => if j = i then 0 else f j) k := by
  induction k with
  | zero => omega
  | succ k ih =>
    simp only [sm]
    by_cases e : i = k
    · subst e
      rw [if_pos rfl]
      have : sm (fun j => if j = i then 0 else f j) i = sm f i := sm_congr (fun j hj => by rw [if_neg (by omega)])
      rw [this]; omega
    · rw [ih (by omega), if_neg (by omega)]; omega
theorem sm_ind {k i : Nat} (h : i < k) : sm (fun j => if i = j then 1 else 0) k = 1 := by
  rw [sm_one h, if_pos rfl]
  have : sm (fun j => if j = i then 0 else if i = j then 1 else 0) k = sm (fun _ => 0) k := sm_congr (fun j hj => by
    split
    · rfl
    · rw [if_neg (by omega)])
  rw [this, sm_const]; simp

/-- How often the client at a place got a quantum. -/
def had (l : List Cl) (n : Nat) (i : Nat) : Int := sm (fun k => if bs (pks l k) = i then 1 else 0) n
theorem had_succ (l : List Cl) (n i : Nat) : had l (n + 1) i = had l n i + if bs (pks l n) = i then 1 else 0 := rfl
theorem had_nn (l : List Cl) (n i : Nat) : 0 ≤ had l n i := by
  induction n with
  | zero => exact Int.le_refl 0
  | succ n ih => rw [had_succ]; split <;> omega
theorem had_sum {l : List Cl} (hp : 0 < l.length) (n : Nat) : sm (had l n) l.length = n := by
  induction n with
  | zero =>
    have : sm (had l 0) l.length = sm (fun _ => 0) l.length := sm_congr (fun i _ => rfl)
    rw [this, sm_const]; simp
  | succ n ih =>
    have : sm (had l (n + 1)) l.length = sm (fun i => had l n i + if bs (pks l n) = i then 1 else 0) l.length := sm_congr (fun i _ => had_succ l n i)
    rw [this, sm_add, ih, sm_ind (by have := bs_lt (l := pks l n) (by rw [pks_len]; exact hp); rwa [pks_len] at this)]
    omega
theorem pk_same {l : List Cl} {i : Nat} (hi : i < l.length) : (ca (pk l) i).id = (ca l i).id ∧ (ca (pk l) i).tk = (ca l i).tk := by
  unfold pk
  rw [ca_lev (by rw [List.length_set]; exact hi), ca_set hi]
  split
  · rename_i e; subst e; exact ⟨rfl, rfl⟩
  · exact ⟨rfl, rfl⟩
theorem pks_same {l : List Cl} (n : Nat) {i : Nat} (hi : i < l.length) : (ca (pks l n) i).id = (ca l i).id ∧ (ca (pks l n) i).tk = (ca l i).tk := by
  induction n with
  | zero => exact ⟨rfl, rfl⟩
  | succ n ih =>
    have := pk_same (l := pks l n) (i := i) (by rw [pks_len]; exact hi)
    exact ⟨this.1.trans ih.1, this.2.trans ih.2⟩
/-- All passes go on by what each got, less the same for all. -/
theorem pks_pass {l : List Cl} (n : Nat) : ∃ S : Int, ∀ i, i < l.length → (ca (pks l n) i).ps = (ca l i).ps + had l n i * stv (ca l i).tk - S := by
  induction n with
  | zero => exact ⟨0, fun i _ => by show (ca l i).ps = (ca l i).ps + 0 * _ - 0; omega⟩
  | succ n ih =>
    obtain ⟨S, hS⟩ := ih
    refine ⟨S + low ((pks l n).set (bs (pks l n)) (fa (ca (pks l n) (bs (pks l n))))), fun i hi => ?_⟩
    have hi' : i < (pks l n).length := by rw [pks_len]; exact hi
    show (ca (pk (pks l n)) i).ps = _
    unfold pk
    rw [ca_lev (by rw [List.length_set]; exact hi'), ca_set hi', had_succ]
    have hs := hS i hi
    have ht := (pks_same n hi).2
    split
    · rename_i e
      rw [e]
      unfold fa
      simp only
      rw [ht, hs, Int.add_mul]; omega
    · rename_i e
      rw [Int.add_zero]; simp only [hs]; omega
/-- How often an Id is told is how often its client got a quantum. -/
theorem pids_count {l : List Cl} (hg : Gr l) (hp : 0 < l.length) (n : Nat) {i : Nat} (hi : i < l.length) : ((pids l n).count (ca l i).id : Int) = had l n i := by
  induction n with
  | zero => rfl
  | succ n ih =>
    rw [pids_succ, List.count_append, had_succ, ← ih, List.count_singleton]
    have hb : bs (pks l n) < l.length := by have := bs_lt (l := pks l n) (by rw [pks_len]; exact hp); rwa [pks_len] at this
    have e : pid (pks l n) = (ca l (bs (pks l n))).id := (pks_same n hb).1
    rw [e]
    by_cases h : bs (pks l n) = i
    · rw [h]; simp
    · rw [if_neg h]
      have : (ca l (bs (pks l n))).id ≠ (ca l i).id := by
        rcases Nat.lt_trichotomy (bs (pks l n)) i with h1 | h1 | h1
        · have := hg.ids _ _ h1 hi; omega
        · exact absurd h1 h
        · have := hg.ids _ _ h1 hb; omega
      have hb' : ((ca l (bs (pks l n))).id == (ca l i).id) = false := by simpa using this
      rw [hb']; simp

theorem mul_abs {a b : Int} (ha : 0 ≤ a) {m : Int} (h1 : -m ≤ b) (h2 : b ≤ m) : -(a * m) ≤ a * b ∧ a * b ≤ a * m := by
  have h3 := Int.mul_le_mul_of_nonneg_left h2 ha
  have h4 := Int.mul_le_mul_of_nonneg_left h1 ha
  rw [Int.mul_neg] at h4
  exact ⟨h4, h3⟩
/-- All tickets. -/
def tks (l : List Cl) : Int := sm (fun i => (ca l i).tk) l.length
theorem fair_of (k : Nat) (t h D : Nat → Int) (n S : Int) (ht : ∀ i, i < k → 1 ≤ t i) (hD : ∀ i, i < k → h i * 720720 - S * t i = D i) (h1 : ∀ i, i < k → -720720 ≤ D i ∧ D i ≤ 720720) (hn : sm h k = n) {i : Nat} (hi : i < k) :
    -(sm t k * ((k : Int) - 1)) ≤ h i * sm t k - n * t i ∧ h i * sm t k - n * t i ≤ sm t k * ((k : Int) - 1) := by
  have e1 : n * 720720 - S * sm t k = sm D k := by
    rw [← hn, ← sm_congr hD]
    have : sm (fun i => h i * 720720 - S * t i) k = sm (fun i => 720720 * h i + (-S) * t i) k := sm_congr (fun i _ => by rw [Int.neg_mul]; omega)
    rw [this, sm_add, sm_mul, sm_mul, Int.neg_mul]; omega
  obtain ⟨O, hO⟩ : ∃ O, O = sm (fun j => if j = i then 0 else D j) k := ⟨_, rfl⟩
  have e2 : sm D k = D i + O := by rw [hO]; exact sm_one hi
  obtain ⟨U, hU⟩ : ∃ U, U = sm (fun j => if j = i then 0 else t j) k := ⟨_, rfl⟩
  have e3 : sm t k = t i + U := by rw [hU]; exact sm_one hi
  have c1 : sm (fun j => if j = i then 0 else (1 : Int)) k = (k : Int) - 1 := by
    have h := sm_one (f := fun _ => (1 : Int)) hi
    rw [sm_const] at h
    omega
  have bO1 : O ≤ 720720 * ((k : Int) - 1) := by
    rw [← c1, hO, ← sm_mul]
    refine sm_le (fun j hj => ?_)
    split
    · omega
    · have := h1 j hj; omega
  have bO2 : -720720 * ((k : Int) - 1) ≤ O := by
    rw [← c1, hO, ← sm_mul]
    refine sm_le (fun j hj => ?_)
    split
    · omega
    · have := h1 j hj; omega
  have bO : O ≤ 720720 * ((k : Int) - 1) ∧ -(720720 * ((k : Int) - 1)) ≤ O := ⟨bO1, by omega⟩
  have bU : (k : Int) - 1 ≤ U := by
    rw [← c1, hU]
    refine sm_le (fun j hj => ?_)
    split
    · omega
    · exact ht j hj
  have key : 720720 * (h i * sm t k - n * t i) = U * D i - t i * O := by
    have d := hD i hi
    have a1 : 720720 * (h i * sm t k) = (D i + S * t i) * sm t k := by rw [← d, ← Int.mul_assoc]; congr 1; omega
    have a2 : 720720 * (n * t i) = (sm D k + S * sm t k) * t i := by rw [← e1, ← Int.mul_assoc]; congr 1; omega
    rw [Int.mul_sub, a1, a2, e2, e3]
    simp only [Int.mul_add, Int.mul_comm, Int.mul_left_comm]
    omega
  have ti := ht i hi
  have hk1 : (0 : Int) ≤ (k : Int) - 1 := by omega
  have b1 := mul_abs (a := U) (by omega) (h1 i hi).1 (h1 i hi).2
  have b2 := mul_abs (a := t i) (by omega) bO.2 bO.1
  -- (U + t (k-1)) ≤ (t + U) (k - 1), or k = 1
  have fin : 0 < (k : Int) - 1 → U * 720720 + t i * (720720 * ((k : Int) - 1)) ≤ 720720 * (sm t k * ((k : Int) - 1)) := by
    intro hk
    have : U * 1 ≤ U * ((k : Int) - 1) := Int.mul_le_mul_of_nonneg_left (by omega) (by omega)
    rw [e3, Int.add_mul, ← Int.mul_assoc, Int.mul_comm (t i) 720720, Int.mul_assoc, Int.mul_add]
    omega
  rcases Int.lt_or_le 0 ((k : Int) - 1) with hk | hk
  · have := fin hk
    constructor <;> omega
  · have k0 : (k : Int) - 1 = 0 := by omega
    rw [k0] at bO ⊢
    have U0 : U = 0 := by
      rw [hU]
      have : sm (fun j => if j = i then 0 else t j) k = sm (fun _ => 0) k := sm_congr (fun j hj => by rw [if_pos (by omega)])
      rw [this, sm_const]; simp
    have O0 : O = 0 := by omega
    rw [U0, O0] at key
    constructor <;> omega
/-- What each gets differs from its share by at most as many as there are others. -/
theorem fair {l : List Cl} (hg : Gr l) (n : Nat) {i : Nat} (hi : i < l.length) :
    -(tks l * ((l.length : Int) - 1)) ≤ had l n i * tks l - n * (ca l i).tk ∧ had l n i * tks l - n * (ca l i).tk ≤ tks l * ((l.length : Int) - 1) := by
  have hp : 0 < l.length := by omega
  have hq := hg.pks hp n
  obtain ⟨S, hS⟩ := pks_pass (l := l) n
  refine fair_of l.length (fun i => (ca l i).tk) (had l n) (fun i => (ca l i).tk * ((ca (pks l n) i).ps - (ca l i).ps)) n S (fun i hi => (hg.rng i hi).2.1) (fun i hi => ?_) (fun i hi => ?_) (had_sum hp n) hi
  · obtain ⟨_, a, b, _, _⟩ := hg.rng i hi
    rw [hS i hi]
    have := stv_mul a b
    have e : (ca l i).ps + had l n i * stv (ca l i).tk - S - (ca l i).ps = had l n i * stv (ca l i).tk - S := by omega
    rw [e, Int.mul_sub, Int.mul_left_comm, this, Int.mul_comm S]
  · obtain ⟨_, a, b, c, d⟩ := hg.rng i hi
    obtain ⟨_, _, _, c', d'⟩ := hq.rng i (by rw [pks_len]; exact hi)
    rw [(pks_same n hi).2] at d'
    have m := stv_mul a b
    have := mul_abs (a := (ca l i).tk) (b := (ca (pks l n) i).ps - (ca l i).ps) (by omega) (m := stv (ca l i).tk) (by omega) (by omega)
    rw [m] at this
    exact this

end Go.Proofs.Ytdenhpclopjjgaa
