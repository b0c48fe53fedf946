/-
  Contracts of drf: rises; slices.BinarySearch of int; cmp.Less.
  Contracts of drf: slices.BinarySearch of int; are all of want leaves?
  Contracts of drf: a map of counts; count.
  Contracts of drf: before.
  Contracts of drf: next.
  Contracts of drf: read.
  Contracts of drf: read, where want is counted.
  Contracts of drf: read whole; Choose.
  Contracts of drf: Order.
  law06's first calls: the lists.
  law06's first calls.
  Whose turn it is: one of want; behind it all goes on as if that weren't there.
  The least share is next; who uses more isn't chosen for it.
  Law06's wished; a queue waits just where one of want is below it.
-/
import Derived.Test.YtglifgnaecbniaaMR
import Derived.Test.YtglifgnaecbniaaQO
import Derived.Test.YtglifgnaecbniaaQS
import Derived.Test.YtglifgnaecbniaaQV
import Derived.Test.YtglifgnaecbniaaQR
import Derived.Test.YtglifgnaecbniaaMV
import Derived.WalkMore
import Derived.Test.YtglifgnaecbniaaRA
import Derived.Test.YtglifgnaecbniaaRR
import Derived.Test.YtglifgnaecbniaaQW
namespace Go.Proofs.Ytglifgnaecbniaa
open Go.RowKit Go.Deep Go.Maps Go.Shelf
set_option linter.unusedVariables false
set_option linter.unusedSimpArgs false

/-- Whole numbers of a list. -/
def na (l : List Int) (i : Nat) : Int := l[i]?.getD 0
theorem na_get {l : List Int} {i : Nat} (h : i < l.length) : l[i]? = some (na l i) := by unfold na; rw [List.getElem?_eq_getElem h]; rfl
theorem na_mem {l : List Int} {i : Nat} (h : i < l.length) : na l i ∈ l := List.mem_of_getElem? (na_get h)
theorem HoldsE.rowA {w : World} {a : Option Addr} {len cap : Nat} {l : List Int} (h : HoldsN w a len cap l) (hp : 0 < len) : ∃ b off, a = some ⟨b, off, none⟩ ∧ ∀ j, j < len → w.cell? ⟨b, off + j, none⟩ = some (.int .i64 (na l j)) := by
  obtain ⟨h1, h2, h3, h4, h5⟩ := h
  obtain ⟨b, off, e, hlt, hc⟩ := h5 hp
  refine ⟨b, off, e, fun j hj => ?_⟩
  have hh := hc j _ (na_get (by omega)) 0 _ rfl
  rw [Nat.mul_one, Nat.add_zero] at hh
  exact hh

/-- Does a list rise strictly? -/
def riseB : List Int → Bool
  | [] => true
  | [_] => true
  | x :: y :: r => decide (x < y) && riseB (y :: r)
theorem riseB_iff : ∀ {l : List Int}, riseB l = true ↔ ∀ k, k + 1 < l.length → na l k < na l (k + 1) := by
  intro l
  induction l with
  | nil => simp [riseB]
  | cons x r ih =>
    cases r with
    | nil => simp [riseB]
    | cons y r =>
      unfold riseB
      rw [Bool.and_eq_true, decide_eq_true_eq, ih]
      constructor
      · rintro ⟨h1, h2⟩ k hk
        cases k with
        | zero => exact h1
        | succ k => exact h2 k (by simpa using hk)
      · intro h
        exact ⟨h 0 (by simp), fun k hk => h (k + 1) (by simpa using hk)⟩
theorem riseB_no {l : List Int} {k : Nat} (hk : k + 1 < l.length) (h : ¬ na l k < na l (k + 1)) : riseB l = false := by
  cases e : riseB l
  · rfl
  · exact absurd (riseB_iff.1 e k hk) h

set_option maxHeartbeats 2000000 in
theorem rises_any (a : Option Addr) (len ca : Nat) (l : List Int) (w : World) (h : HoldsN w a len ca l) :
    Calls Try.prog 60 #[.slice a len ca] w fun e w' => e = .returned (.bool (riseB l)) ∧ Below w.heap.size w w' := by
  have HL := hid h.1
  have hcap := h.2.1
  have hcm := h.2.2.1
  have HH := hid h
  clear h
  have hw0 : IntKind.i64.wrap ((len : Int) - 1) = (len : Int) - 1 := by rw [IntKind.wrap_i64]; omega
  go_enter Try.func60, Try.ntmps60
  go_wp2_with fail
  go_loopw [7] (fun i wr => ∃ k : Nat, (k = 0 ∨ k < len) ∧ i = .int .i64 k ∧ Hid (∀ j, j < k → na l j < na l (j + 1)) ∧ Hid (Below w.heap.size w wr)) (fun i _ => len - (intOf i).toNat)
  case atStart => exact ⟨0, .inl rfl, rfl, fun j hj => absurd hj (by omega), Below.refl _ _⟩
  case round =>
    obtain ⟨k, hk, rfl, hgo, hB⟩ := hrel
    by_cases hlt : k + 1 < len
    · obtain ⟨b, off, rfl, R⟩ := HH.out.rowA (by omega)
      have c0 := keepc hB.out (R k (by omega))
      have c1 := keepc hB.out (R (k + 1) hlt)
      have tl : decide ((k : Int) < (len : Int) - 1) = true := by simp; omega
      have ka : (0 : Int) ≤ (k : Int) := by omega
      have kb : (k : Int) < (len : Int) := by omega
      have kc : (0 : Int) ≤ (k : Int) + 1 := by omega
      have kd : (k : Int) + 1 < (len : Int) := by omega
      have ke : ((k : Int) + 1).toNat = k + 1 := by omega
      have kw : IntKind.i64.wrap ((k : Int) + 1) = (k : Int) + 1 := by rw [IntKind.wrap_i64]; omega
      have NO := hid (fun h => riseB_no (l := l) (k := k) (by rw [HL.out]; exact hlt) h)
      clear R
      rw [← Nat.add_assoc] at c1
      have NX : Hid (na l k < na l (k + 1) → ∀ j, j < k + 1 → na l j < na l (j + 1)) := fun h j hj => by
        rcases Nat.lt_or_ge j k with hjk | hjk
        · exact hgo.out j hjk
        · have : j = k := by omega
          subst this; exact h
      generalize na l k = x at *
      generalize na l (k + 1) = y at *
      by_cases hxy : x < y
      · have tg : decide (y ≤ x) = false := by simp; omega
        have NG := hid (NX.out hxy)
        have DR := hid (hB.out.drew)
        clear NX NO hxy
        go_wp2_with fail
        refine wp_region_held_drew (S := (fun w' => w'.cell? ⟨b, off + k, none⟩ = some (.int .i64 x) ∧ w'.cell? ⟨b, off + k + 1, none⟩ = some (.int .i64 y))) (by kernel_rfl) ⟨drewc c0, drewc c1⟩ (fun hHeld => ?_)
        refine wpAnyH_take (i := 0) (v := .slice (some ⟨b, off, none⟩) len ca) rfl (by kernel_rfl) (by kernel_rfl) (by kernel_rfl) (fun _ _ _ h => h) (Or.inl ⟨by rfl, ?_⟩) (by assumption) ?_
        · (intro w hSw; (try dsimp only at hSw); go_simp)
        (try simp only [Act.put, List.getElem_toArray, List.getElem_cons_succ, List.getElem_cons_zero, List.setIfInBounds_toArray, List.set_cons_zero, List.set_cons_succ])
        refine wpAnyH_take (i := 1) (v := .int .i64 (k : Int)) rfl (by kernel_rfl) (by kernel_rfl) (by kernel_rfl) (fun _ _ _ h => h) (Or.inl ⟨by rfl, ?_⟩) (by assumption) ?_
        · (intro w hSw; (try dsimp only at hSw); go_simp)
        (try simp only [Act.put, List.getElem_toArray, List.getElem_cons_succ, List.getElem_cons_zero, List.setIfInBounds_toArray, List.set_cons_zero, List.set_cons_succ])
        refine wpAnyH_take (i := 2) (v := .pointer (some ⟨b, off + k, none⟩)) rfl (by kernel_rfl) (by kernel_rfl) (by kernel_rfl) (fun _ _ _ h => h) (Or.inl ⟨by rfl, ?_⟩) (by assumption) ?_
        · (intro w hSw; (try dsimp only at hSw); go_simp)
        (try simp only [Act.put, List.getElem_toArray, List.getElem_cons_succ, List.getElem_cons_zero, List.setIfInBounds_toArray, List.set_cons_zero, List.set_cons_succ])
        refine wpAnyH_take (i := 3) (v := .int .i64 x) rfl (by kernel_rfl) (by kernel_rfl) (by kernel_rfl) (fun _ _ _ h => h) (Or.inl ⟨by rfl, ?_⟩) (by assumption) ?_
        · (intro w hSw; (try dsimp only at hSw); go_simp)
        (try simp only [Act.put, List.getElem_toArray, List.getElem_cons_succ, List.getElem_cons_zero, List.setIfInBounds_toArray, List.set_cons_zero, List.set_cons_succ])
        refine wpAnyH_take (i := 4) (v := .slice (some ⟨b, off, none⟩) len ca) rfl (by kernel_rfl) (by kernel_rfl) (by kernel_rfl) (fun _ _ _ h => h) (Or.inl ⟨by rfl, ?_⟩) (by assumption) ?_
        · (intro w hSw; (try dsimp only at hSw); go_simp)
        (try simp only [Act.put, List.getElem_toArray, List.getElem_cons_succ, List.getElem_cons_zero, List.setIfInBounds_toArray, List.set_cons_zero, List.set_cons_succ])
        refine wpAnyH_take (i := 5) (v := .int .i64 (k : Int)) rfl (by kernel_rfl) (by kernel_rfl) (by kernel_rfl) (fun _ _ _ h => h) (Or.inl ⟨by rfl, ?_⟩) (by assumption) ?_
        · (intro w hSw; (try dsimp only at hSw); go_simp)
        (try simp only [Act.put, List.getElem_toArray, List.getElem_cons_succ, List.getElem_cons_zero, List.setIfInBounds_toArray, List.set_cons_zero, List.set_cons_succ])
        refine wpAnyH_take (i := 6) (v := .int .i64 ((k : Int) + 1)) rfl (by kernel_rfl) (by kernel_rfl) (by kernel_rfl) (fun _ _ _ h => h) (Or.inl ⟨by rfl, ?_⟩) (by assumption) ?_
        · (intro w hSw; (try dsimp only at hSw); go_simp)
        (try simp only [Act.put, List.getElem_toArray, List.getElem_cons_succ, List.getElem_cons_zero, List.setIfInBounds_toArray, List.set_cons_zero, List.set_cons_succ])
        refine wpAnyH_take (i := 7) (v := .pointer (some ⟨b, off + k + 1, none⟩)) rfl (by kernel_rfl) (by kernel_rfl) (by kernel_rfl) (fun _ _ _ h => h) (Or.inl ⟨by rfl, ?_⟩) (by assumption) ?_
        · (intro w hSw; (try dsimp only at hSw); go_simp)
        (try simp only [Act.put, List.getElem_toArray, List.getElem_cons_succ, List.getElem_cons_zero, List.setIfInBounds_toArray, List.set_cons_zero, List.set_cons_succ])
        refine wpAnyH_take (i := 8) (v := .int .i64 y) rfl (by kernel_rfl) (by kernel_rfl) (by kernel_rfl) (fun _ _ _ h => h) (Or.inl ⟨by rfl, ?_⟩) (by assumption) ?_
        · (intro w hSw; (try dsimp only at hSw); go_simp)
        (try simp only [Act.put, List.getElem_toArray, List.getElem_cons_succ, List.getElem_cons_zero, List.setIfInBounds_toArray, List.set_cons_zero, List.set_cons_succ])
        refine wpAnyH_take (i := 9) (v := .bool false) rfl (by kernel_rfl) (by kernel_rfl) (by kernel_rfl) (fun _ _ _ h => h) (Or.inl ⟨by rfl, ?_⟩) (by assumption) ?_
        · (intro w hSw; (try dsimp only at hSw); go_simp)
        (try simp only [Act.put, List.getElem_toArray, List.getElem_cons_succ, List.getElem_cons_zero, List.setIfInBounds_toArray, List.set_cons_zero, List.set_cons_succ])
        refine wpAnyH_done (by kernel_rfl) ?_ _
        go_wp2
        go_roundw
        case rel => exact ⟨k + 1, .inr (by omega), by go_num, NG, DR⟩
        case measure => simp [intOf]; omega
      · have tg : decide (y ≤ x) = true := by simp; omega
        have EN := hid (NO.out hxy)
        have DR := hid (hB.out.drew)
        clear NX NO hxy
        go_wp2_with fail
        refine wp_region_held_drew (S := (fun w' => w'.cell? ⟨b, off + k, none⟩ = some (.int .i64 x) ∧ w'.cell? ⟨b, off + k + 1, none⟩ = some (.int .i64 y))) (by kernel_rfl) ⟨drewc c0, drewc c1⟩ (fun hHeld => ?_)
        refine wpAnyH_take (i := 0) (v := .slice (some ⟨b, off, none⟩) len ca) rfl (by kernel_rfl) (by kernel_rfl) (by kernel_rfl) (fun _ _ _ h => h) (Or.inl ⟨by rfl, ?_⟩) (by assumption) ?_
        · (intro w hSw; (try dsimp only at hSw); go_simp)
        (try simp only [Act.put, List.getElem_toArray, List.getElem_cons_succ, List.getElem_cons_zero, List.setIfInBounds_toArray, List.set_cons_zero, List.set_cons_succ])
        refine wpAnyH_take (i := 1) (v := .int .i64 (k : Int)) rfl (by kernel_rfl) (by kernel_rfl) (by kernel_rfl) (fun _ _ _ h => h) (Or.inl ⟨by rfl, ?_⟩) (by assumption) ?_
        · (intro w hSw; (try dsimp only at hSw); go_simp)
        (try simp only [Act.put, List.getElem_toArray, List.getElem_cons_succ, List.getElem_cons_zero, List.setIfInBounds_toArray, List.set_cons_zero, List.set_cons_succ])
        refine wpAnyH_take (i := 2) (v := .pointer (some ⟨b, off + k, none⟩)) rfl (by kernel_rfl) (by kernel_rfl) (by kernel_rfl) (fun _ _ _ h => h) (Or.inl ⟨by rfl, ?_⟩) (by assumption) ?_
        · (intro w hSw; (try dsimp only at hSw); go_simp)
        (try simp only [Act.put, List.getElem_toArray, List.getElem_cons_succ, List.getElem_cons_zero, List.setIfInBounds_toArray, List.set_cons_zero, List.set_cons_succ])
        refine wpAnyH_take (i := 3) (v := .int .i64 x) rfl (by kernel_rfl) (by kernel_rfl) (by kernel_rfl) (fun _ _ _ h => h) (Or.inl ⟨by rfl, ?_⟩) (by assumption) ?_
        · (intro w hSw; (try dsimp only at hSw); go_simp)
        (try simp only [Act.put, List.getElem_toArray, List.getElem_cons_succ, List.getElem_cons_zero, List.setIfInBounds_toArray, List.set_cons_zero, List.set_cons_succ])
        refine wpAnyH_take (i := 4) (v := .slice (some ⟨b, off, none⟩) len ca) rfl (by kernel_rfl) (by kernel_rfl) (by kernel_rfl) (fun _ _ _ h => h) (Or.inl ⟨by rfl, ?_⟩) (by assumption) ?_
        · (intro w hSw; (try dsimp only at hSw); go_simp)
        (try simp only [Act.put, List.getElem_toArray, List.getElem_cons_succ, List.getElem_cons_zero, List.setIfInBounds_toArray, List.set_cons_zero, List.set_cons_succ])
        refine wpAnyH_take (i := 5) (v := .int .i64 (k : Int)) rfl (by kernel_rfl) (by kernel_rfl) (by kernel_rfl) (fun _ _ _ h => h) (Or.inl ⟨by rfl, ?_⟩) (by assumption) ?_
        · (intro w hSw; (try dsimp only at hSw); go_simp)
        (try simp only [Act.put, List.getElem_toArray, List.getElem_cons_succ, List.getElem_cons_zero, List.setIfInBounds_toArray, List.set_cons_zero, List.set_cons_succ])
        refine wpAnyH_take (i := 6) (v := .int .i64 ((k : Int) + 1)) rfl (by kernel_rfl) (by kernel_rfl) (by kernel_rfl) (fun _ _ _ h => h) (Or.inl ⟨by rfl, ?_⟩) (by assumption) ?_
        · (intro w hSw; (try dsimp only at hSw); go_simp)
        (try simp only [Act.put, List.getElem_toArray, List.getElem_cons_succ, List.getElem_cons_zero, List.setIfInBounds_toArray, List.set_cons_zero, List.set_cons_succ])
        refine wpAnyH_take (i := 7) (v := .pointer (some ⟨b, off + k + 1, none⟩)) rfl (by kernel_rfl) (by kernel_rfl) (by kernel_rfl) (fun _ _ _ h => h) (Or.inl ⟨by rfl, ?_⟩) (by assumption) ?_
        · (intro w hSw; (try dsimp only at hSw); go_simp)
        (try simp only [Act.put, List.getElem_toArray, List.getElem_cons_succ, List.getElem_cons_zero, List.setIfInBounds_toArray, List.set_cons_zero, List.set_cons_succ])
        refine wpAnyH_take (i := 8) (v := .int .i64 y) rfl (by kernel_rfl) (by kernel_rfl) (by kernel_rfl) (fun _ _ _ h => h) (Or.inl ⟨by rfl, ?_⟩) (by assumption) ?_
        · (intro w hSw; (try dsimp only at hSw); go_simp)
        (try simp only [Act.put, List.getElem_toArray, List.getElem_cons_succ, List.getElem_cons_zero, List.setIfInBounds_toArray, List.set_cons_zero, List.set_cons_succ])
        refine wpAnyH_take (i := 9) (v := .bool true) rfl (by kernel_rfl) (by kernel_rfl) (by kernel_rfl) (fun _ _ _ h => h) (Or.inl ⟨by rfl, ?_⟩) (by assumption) ?_
        · (intro w hSw; (try dsimp only at hSw); go_simp)
        (try simp only [Act.put, List.getElem_toArray, List.getElem_cons_succ, List.getElem_cons_zero, List.setIfInBounds_toArray, List.set_cons_zero, List.set_cons_succ])
        refine wpAnyH_done (by kernel_rfl) ?_ _
        go_wp2
        go_ret
        exact ⟨retb EN.out.symm, DR.out⟩
    · have tl : decide ((k : Int) < (len : Int) - 1) = false := by simp; omega
      have EY : Hid (riseB l = true) := riseB_iff.2 (fun j hj => hgo.out j (by rw [HL.out] at hj; omega))
      go_wp2
      go_ret
      exact ⟨retb EY.out.symm, hB.out⟩

set_option maxHeartbeats 1000000 in
theorem cless_any (x y : Int) (w : World) : Calls Try.prog 113 #[.int .i64 x, .int .i64 y] w fun e w' => e = .returned (.bool (decide (x < y))) ∧ w = w' := by
  have tn : (x != x) = false := by simp
  have ty : (y != y) = false := by simp
  go_enter Try.func113, Try.ntmps113
  go_wp2
  go_ret
  exact ⟨rfl, rfl⟩

end Go.Proofs.Ytglifgnaecbniaa

namespace Go.Proofs.Ytglifgnaecbniaa
open Go.RowKit Go.Deep Go.Maps Go.Shelf
set_option linter.unusedVariables false
set_option linter.unusedSimpArgs false

theorem pair_na {l : List Int} (h : l.Pairwise (· < ·)) {i j : Nat} (hij : i < j) (hj : j < l.length) : na l i < na l j := by
  have h1 : na l i = l[i]'(by omega) := by unfold na; rw [List.getElem?_eq_getElem (by omega)]; rfl
  have h2 : na l j = l[j] := by unfold na; rw [List.getElem?_eq_getElem hj]; rfl
  rw [h1, h2]
  exact List.pairwise_iff_getElem.1 h i j (by omega) hj hij
theorem hasN_na {l : List Int} {x : Int} {i : Nat} (hi : i ≤ l.length) (h1 : ∀ k, k < i → na l k < x) (h2 : ∀ k, i ≤ k → k < l.length → x ≤ na l k) (hs : l.Pairwise (· < ·)) : hasN l x = (decide (i < l.length) && decide (na l i = x)) := by
  rw [Bool.eq_iff_iff, hasN_iff, Bool.and_eq_true, decide_eq_true_eq, decide_eq_true_eq]
  constructor
  · intro hm
    obtain ⟨k, hk, e⟩ := List.getElem_of_mem hm
    have hn : na l k = x := by unfold na; rw [List.getElem?_eq_getElem hk]; exact e
    rcases Nat.lt_or_ge k i with h | h
    · have := h1 k h; omega
    · rcases Nat.lt_or_ge i k with h' | h'
      · have a := pair_na hs h' hk
        have b := h2 i (Nat.le_refl _) (by omega)
        omega
      · have : k = i := by omega
        subst this
        exact ⟨hk, hn⟩
  · rintro ⟨hlt, e⟩
    rw [← e]; exact na_mem hlt

set_option maxRecDepth 100000 in
set_option maxHeartbeats 4000000 in
theorem bsearch_any (a : Option Addr) (len ca : Nat) (l : List Int) (x : Int) (w : World) (h : HoldsN w a len ca l) (hle : len ≤ 64) (hs : l.Pairwise (· < ·)) :
    Calls Try.prog 93 #[.slice a len ca, .int .i64 x] w fun e w' => ∃ k : Nat, e = .returned (.tuple #[.int .i64 (k : Int), .bool (hasN l x)]) ∧ Below w.heap.size w w' := by
  have HH := hid h
  have HL := hid h.1
  have HS := hid hs
  have hcap := h.2.1
  clear h hs
  go_enter Try.func93, Try.ntmps93
  go_wp2_with fail
  go_loopw [7, 8] (fun u v wr => ∃ i j : Nat, i ≤ j ∧ j ≤ len ∧ u = .int .i64 i ∧ v = .int .i64 j ∧ Hid (∀ k, k < i → na l k < x) ∧ Hid (∀ k, j ≤ k → k < len → x ≤ na l k) ∧ Hid (Below w.heap.size w wr)) (fun u v _ => (intOf v).toNat - (intOf u).toNat)
  case atStart => exact ⟨0, len, by omega, by omega, rfl, rfl, fun k hk => by omega, fun k h1 h2 => by omega, Below.refl _ _⟩
  case round =>
    obtain ⟨i, j, hij, hj, rfl, rfl, h1, h2, hB⟩ := hrel
    by_cases hlt : i < j
    · have m1 : i ≤ (i + j) / 2 := by omega
      have m2 : (i + j) / 2 < j := by omega
      have ml : (i + j) / 2 < l.length := by rw [HL.out]; omega
      obtain ⟨b, off, rfl, R⟩ := HH.out.rowA (by omega)
      have c0 := keepc hB.out (R ((i + j) / 2) (by omega))
      clear R
      by_cases hc : na l ((i + j) / 2) < x
      · have N1 : Hid (∀ k, k < (i + j) / 2 + 1 → na l k < x) := fun k hk => by
          rcases Nat.lt_or_ge k ((i + j) / 2) with h | h
          · have := pair_na HS.out h ml; omega
          · obtain rfl : k = (i + j) / 2 := by omega
            exact hc
        have t : decide (na l ((i + j) / 2) < x) = true := by simpa using hc
        clear hc ml h1
        generalize na l ((i + j) / 2) = q at *
        go_wp2_with fail
        refine (cless_any q x wr).mono ?_
        rintro e w1 ⟨rfl, rfl⟩
        rw [t]
        go_wp2
        go_roundw
        case rel => exact ⟨(i + j) / 2 + 1, j, by omega, hj, by congr 1, rfl, N1, h2, hB⟩
        case measure => simp [intOf]; omega
      · have N1 : Hid (∀ k, (i + j) / 2 ≤ k → k < len → x ≤ na l k) := fun k hk hk2 => by
          rcases Nat.lt_or_ge ((i + j) / 2) k with h | h
          · have := pair_na HS.out h (by rw [HL.out]; exact hk2); omega
          · obtain rfl : k = (i + j) / 2 := by omega
            omega
        have t : decide (na l ((i + j) / 2) < x) = false := by simpa using hc
        clear hc ml h2
        generalize na l ((i + j) / 2) = q at *
        go_wp2_with fail
        refine (cless_any q x wr).mono ?_
        rintro e w1 ⟨rfl, rfl⟩
        rw [t]
        go_wp2
        go_roundw
        case rel => exact ⟨i, (i + j) / 2, by omega, by omega, rfl, by congr 1, h1, N1, hB⟩
        case measure => simp [intOf]; omega
    · obtain rfl : i = j := by omega
      have E := hid (hasN_na (l := l) (x := x) (i := i) (by rw [HL.out]; exact hj) h1.out (fun k h h' => h2.out k h (by rw [HL.out] at h'; exact h')) HS.out)
      clear h1 h2
      by_cases hn : i < len
      · obtain ⟨b, off, rfl, R⟩ := HH.out.rowA (by omega)
        have c0 := keepc hB.out (R i hn)
        clear R
        have e1 : decide (i < l.length) = true := by rw [HL.out]; simpa using hn
        rw [e1, Bool.true_and] at E
        generalize na l i = q at *
        have ia : (0 : Int) ≤ (i : Int) := by omega
        have ib : (i : Int) < (len : Int) := by omega
        have tn : (q != q) = false := by simp
        by_cases hq : q = x
        · have t : (q == x) = true := by simpa using hq
          have EE : Hid (hasN l x = true) := by unfold Hid; rw [E.out]; simpa using hq
          clear E hq e1
          go_wp2
          go_ret2
          rw [EE.out]
          exact ⟨_, rfl, hB.out⟩
        · have t : (q == x) = false := by simpa using hq
          have EE : Hid (hasN l x = false) := by unfold Hid; rw [E.out]; simpa using hq
          clear E hq e1
          go_wp2
          go_ret2
          rw [EE.out]
          exact ⟨_, rfl, hB.out⟩
      · have e1 : decide (i < l.length) = false := by rw [HL.out]; simpa using hn
        have EE : Hid (hasN l x = false) := by unfold Hid; rw [E.out, e1]; rfl
        clear E e1
        go_wp2
        go_ret2
        rw [EE.out]
        exact ⟨_, rfl, hB.out⟩

/-- The leaves' Ids rise. -/
theorem ids_rise {l : List Qu} (hF : Form l) (p : Fin l.length → Bool) : (idsAt l ((List.finRange l.length).filter p)).Pairwise (· < ·) := by
  unfold idsAt
  rw [List.pairwise_map]
  refine List.Pairwise.imp_of_mem ?_ ((List.pairwise_lt_finRange l.length).filter p)
  intro i j _ _ hij
  exact hF.rise hij j.2
theorem leavesR_rise (l : List Qu) : (leavesR l).Pairwise (· < ·) := by
  unfold leavesR
  split
  · rename_i h
    exact ids_rise (chkE_ok.1 h).2.1 _
  · exact List.Pairwise.nil
theorem leavesR_le (l : List Qu) : (leavesR l).length ≤ 64 := by
  unfold leavesR
  split
  · rename_i h
    unfold idsAt
    rw [List.length_map]
    exact filter_len (chkE_ok.1 h).1
  · simp
/-- Are all of want leaves? -/
def allLeaf (l : List Qu) (ws : List Int) : Bool := ws.all (fun x => hasN (leavesR l) x)
theorem all_take_na {ws : List Int} {f : Int → Bool} {k : Nat} (hk : k < ws.length) (h : (ws.take k).all f = true) (ho : f (na ws k) = true) : (ws.take (k + 1)).all f = true := by
  rw [List.take_add_one, na_get hk, List.all_append, h]; simp [ho]
theorem all_no_na {ws : List Int} {f : Int → Bool} {k : Nat} (hk : k < ws.length) (ho : f (na ws k) = false) : ws.all f = false := List.all_eq_false.2 ⟨_, na_mem hk, by simp [ho]⟩

set_option maxRecDepth 100000 in
set_option maxHeartbeats 2000000 in
theorem dleaves_any (a : Option Addr) (len cap : Nat) (l : List Qu) (wa : Option Addr) (n wc : Nat) (ws : List Int) (w : World) (h : HoldsQ w a len cap l) (hok : ∀ q ∈ l, q.ok) (hw : HoldsN w wa n wc ws) :
    Calls Try.prog 61 #[.slice a len cap, .slice wa n wc] w fun e w' => e = .returned (.bool (allLeaf l ws)) ∧ Below w.heap.size w w' := by
  have HA := hid (leaves_any a len cap l w h hok)
  have HW := hid hw
  have HL := hid hw.1
  have hcap := hw.2.1
  have hcm := hw.2.2.1
  have RS := hid (leavesR_rise l)
  have RL := leavesR_le l
  clear h hok hw
  go_enter Try.func61, Try.ntmps61
  go_wp2_with fail
  refine HA.out.mono ?_
  rintro e w1 ⟨v1, rfl, o1, b1⟩
  unfold AnsN at o1
  obtain ⟨a1, c1, rfl⟩ := o1.form
  have P1 := hid (o1.holds encN_len)
  have B1 := hid b1
  clear o1 b1 HA
  generalize hlen : (leavesR l).length = LN at *
  clear hlen
  generalize chkE l = CE at *
  go_wp2_with fail
  go_loopw [18] (fun i wr => ∃ k : Nat, k ≤ n ∧ i = .int .i64 k ∧ Hid ((ws.take k).all (fun x => hasN (leavesR l) x) = true) ∧ Hid (Below w1.heap.size w1 wr)) (fun i _ => n - (intOf i).toNat)
  case atStart => exact ⟨0, by omega, rfl, by simp [Hid], Below.refl _ _⟩
  case round =>
    obtain ⟨k, hk, rfl, hgo, hB⟩ := hrel
    by_cases hlt : k < n
    · have hlt' : k < ws.length := by rw [HL.out]; exact hlt
      obtain ⟨wb, wo, rfl, R⟩ := (HW.out.below B1.out).rowA (by omega)
      have c0 := keepc hB.out (R k hlt)
      clear R
      have NX := hid (fun h => all_take_na (f := fun x => hasN (leavesR l) x) hlt' hgo.out h)
      have NO : Hid (hasN (leavesR l) (na ws k) = false → allLeaf l ws = false) := fun h => all_no_na (f := fun x => hasN (leavesR l) x) hlt' h
      have BS := hid (fun x => bsearch_any a1 LN c1 (leavesR l) x wr (P1.out.below hB.out) RL RS.out)
      have ka : (0 : Int) ≤ (k : Int) := by omega
      have kb : (k : Int) < (n : Int) := by omega
      generalize na ws k = x at *
      cases hx : hasN (leavesR l) x
      · have EN := hid (NO.out hx)
        have BX := hid (BS.out x)
        rw [hx] at BX
        clear NX NO BS hx
        go_wp2_with fail
        refine BX.out.mono ?_
        rintro e w2 ⟨p, rfl, b2⟩
        have B2 := B1.out.trans ((hB.out.trans (b2.mono hB.out.size)).mono B1.out.size)
        go_wp2
        go_ret
        exact ⟨retb EN.out.symm, B2⟩
      · have NG := hid (NX.out hx)
        have BX := hid (BS.out x)
        rw [hx] at BX
        clear NX NO BS hx
        go_wp2_with fail
        refine BX.out.mono ?_
        rintro e w2 ⟨p, rfl, b2⟩
        have B2 := hid (hB.out.trans (b2.mono hB.out.size))
        go_wp2
        go_roundw
        case rel => exact ⟨k + 1, by omega, by go_num, NG, B2⟩
        case measure => simp [intOf]; omega
    · have EY : Hid (allLeaf l ws = true) := by have h := hgo.out; rw [List.take_of_length_le (by rw [HL.out]; omega)] at h; exact h
      have B2 := B1.out.trans (hB.out.mono B1.out.size)
      go_wp2
      go_ret
      exact ⟨retb EY.out.symm, B2⟩

end Go.Proofs.Ytglifgnaecbniaa

namespace Go.Proofs.Ytglifgnaecbniaa
open Go.RowKit Go.Deep Go.Maps Go.Shelf
set_option linter.unusedVariables false
set_option linter.unusedSimpArgs false

/-- A map that counts. -/
def CntM (w : World) (b n : Nat) (f : Int → Int) : Prop :=
  ∃ D : DataW Unit, w.ownsMap Try.prog 3 (plainElem Try.prog 3) b n D ∧ ∀ id : Int, D.atKey (.int .i64 id) (.lit (.int .i64 0)) = .lit (.int .i64 (f id))
theorem CntM.same {w w' : World} {b n : Nat} {f : Int → Int} (h : CntM w b n f) (hb : w'.heap[b]? = w.heap[b]?) : CntM w' b n f := by
  obtain ⟨D, ⟨es, clock, h1, h2⟩, h3⟩ := h
  exact ⟨D, ⟨es, clock, hb.trans h1, h2⟩, h3⟩
theorem CntM.lt {w : World} {b n : Nat} {f : Int → Int} (h : CntM w b n f) : b < w.heap.size := by
  obtain ⟨D, ⟨es, clock, h1, h2⟩, h3⟩ := h
  exact (Array.getElem?_eq_some_iff.1 h1).1
theorem CntM.below {w w' : World} {b n : Nat} {f : Int → Int} (h : CntM w b n f) (hb : Below w.heap.size w w') : CntM w' b n f := h.same (hb.block b h.lt)
theorem CntM.get {w : World} {b n : Nat} {f : Int → Int} {x : Int} (h : CntM w b n f) (hx : I64 x) : Sem.run Try.prog (Instr.lookup 63 (.map (some b)) (.int .i64 x) false) w = .ok (.int .i64 (f x)) w := by
  obtain ⟨D, hown, hD⟩ := h
  obtain ⟨c, hrun, hat, hwc⟩ := hown.lookup_int lawI Try.underlying63 Try.underlying3 (zeroI _) (keyI hx)
  rw [hD x] at hat
  simp at hat
  rw [hrun, ← hat]
theorem CntM.put {w : World} {b n : Nat} {f : Int → Int} {x v : Int} (h : CntM w b n f) (hx : I64 x) (hv : I64 v) (hn : n < 1000000) : ∃ w', Sem.run Try.prog (Instr.mapUpdate 63 (.map (some b)) (.int .i64 x) (.int .i64 v)) w = .ok () w' ∧ CntM w' b (n + 1) (fun y => if y = x then v else f y) ∧ w.grownBy w' (some b) := by
  obtain ⟨D, hown, hD⟩ := h
  obtain ⟨w', hrun, h1, h2⟩ := hown.update lawI Try.underlying63 (by unfold maxLen; omega) (keyI hx) (plainElem_int Try.underlying3 (wfI hv))
  refine ⟨w', hrun, ⟨_, h1, fun id => ?_⟩, h2⟩
  by_cases e : id = x
  · subst e
    rw [atKey_put_same hown.isMap (by trivial)]; simp
  · have hne : (Lit.int .i64 id) ≠ .int .i64 x := fun h => e (by injection h)
    rw [atKey_put_other hne, hD id]; simp [e]

/-- The same but one block, which lies at or beyond b. -/
structure But (b : Nat) (w w' : World) : Prop where
  bel : Below b w w'
  oth : ∀ k, k < w.heap.size → k ≠ b → w'.heap[k]? = w.heap[k]?
theorem But.refl (b : Nat) (w : World) : But b w w := ⟨Below.refl _ _, fun _ _ _ => rfl⟩
theorem But.size {b : Nat} {w w' : World} (h : But b w w') : w.heap.size ≤ w'.heap.size := h.bel.size
theorem But.trans {b : Nat} {w w' w'' : World} (h : But b w w') (k : But b w' w'') : But b w w'' :=
  ⟨h.bel.trans k.bel, fun i hi hb => (k.oth i (Nat.lt_of_lt_of_le hi h.size) hb).trans (h.oth i hi hb)⟩
theorem But.of {b : Nat} {w w' : World} (h : Below w.heap.size w w') (hb : b ≤ w.heap.size) : But b w w' := ⟨h.mono hb, fun k hk _ => h.block k hk⟩
theorem But.grown {b : Nat} {w w' : World} (h : w.grownBy w' (some b)) (hb : b ≤ w.heap.size) : But b w w' :=
  ⟨(Below.refl b w).grown h hb (fun k e => by cases e; exact Nat.le_refl _), fun k hk hn => h.block k hk (fun e => hn (by cases e; rfl))⟩
theorem But.cell {b : Nat} {w w' : World} (h : But b w w') {x o : Nat} {v : Value} (hc : w.cell? ⟨x, o, none⟩ = some v) (hx : x ≠ b) : w'.cell? ⟨x, o, none⟩ = some v := by
  have hlt := cell_lt hc
  exact (World.cell?_of_block (w := w) (h.oth x hlt hx)).trans hc
theorem But.frozen {b : Nat} {w w' : World} (h : But b w w') {x o : Nat} {v : Value} (hc : w.cell? ⟨x, o, none⟩ = some v) (hx : x ≠ b) (hf : w.frozen? ⟨x, o, none⟩ = false) : w'.frozen? ⟨x, o, none⟩ = false := by
  have hlt := cell_lt hc
  exact (World.frozen?_of_block (w := w) (h.oth x hlt hx)).trans hf
theorem But.holds {α : Type} {k : Nat} {enc : α → List Value} {b : Nat} {w w' : World} {a : Option Addr} {len cap : Nat} {l : List α} (h : But b w w') (hh : HoldsE k enc w a len cap l) (hm : ∀ x o, a = some ⟨x, o, none⟩ → 0 < len → x ≠ b) : HoldsE k enc w' a len cap l := by
  obtain ⟨h1, h2, h3, h4, h5⟩ := hh
  refine ⟨h1, h2, h3, h4, fun hp => ?_⟩
  obtain ⟨x, off, e, hlt, hc⟩ := h5 hp
  exact ⟨x, off, e, Nat.lt_of_lt_of_le hlt h.size, fun j y hy i v hv => h.cell (hc j y hy i v hv) (hm x off e hp)⟩

/-- How often an Id has been met. -/
def addC (f : Int → Int) (more : Int) (ids : List Int) : Int → Int := fun x => f x + more * (ids.count x : Int)
theorem addC_nil (f : Int → Int) (more : Int) : addC f more [] = f := by funext x; simp [addC]
theorem addC_snoc (f : Int → Int) (more : Int) (ids : List Int) (y : Int) : (fun x => if x = y then addC f more ids y + more else addC f more ids x) = addC f more (ids ++ [y]) := by
  funext x
  unfold addC
  rw [List.count_append, List.count_singleton]
  by_cases e : x = y
  · subst e
    simp [Int.mul_add]; omega
  · rw [if_neg e]
    have : (y == x) = false := by simpa using fun h => e h.symm
    simp [this]

/-- The value of what is read. -/
abbrev tuv (la : Option Addr) (len cap : Nat) (sa : Option Addr) (sn sc mb : Nat) (tc tm : Int) : Value := .agg #[.slice la len cap, .slice sa sn sc, .map (some mb), .int .i64 tc, .int .i64 tm]
abbrev tub (la : Option Addr) (len cap : Nat) (sa : Option Addr) (sn sc mb : Nat) (tc tm : Int) : Obj := .cells #[.slice la len cap, .slice sa sn sc, .map (some mb), .int .i64 tc, .int .i64 tm] 65

theorem thereE_zero {l : List Qu} {id : Int} (h : thereE l id = 0) : chkE l = 0 ∧ hasQ l id = true := by
  unfold thereE at h
  split at h
  · rename_i h1; exact absurd h h1
  · rename_i h1
    split at h
    · omega
    · rename_i h2
      exact ⟨by simpa using h1, by simpa using h2⟩
theorem upR_le (l : List Qu) (id : Int) : (upR l id).length ≤ 64 := by
  unfold upR
  split
  · rename_i h
    have hc := thereE_zero h
    have h1 := pth_len (l := l) (pl l id)
    have h2 : pl l id < l.length := of_decide_eq_true hc.2
    have h3 := (chkE_ok.1 hc.1).1
    rw [List.length_map]
    omega
  · simp
theorem upR_ok {l : List Qu} (hok : ∀ q ∈ l, q.ok) (id : Int) : ∀ x ∈ upR l id, I64 x := by
  intro x hx
  unfold upR at hx
  split at hx
  · obtain ⟨i, _, rfl⟩ := List.mem_map.1 hx
    exact (qa_ok hok i).1
  · simp at hx

set_option maxRecDepth 100000 in
set_option maxHeartbeats 4000000 in
theorem count_any (la : Option Addr) (len cap : Nat) (l : List Qu) (sa : Option Addr) (sn sc mb : Nat) (tc tm id more : Int) (n : Nat) (f : Int → Int) (w : World) (h : HoldsQ w la len cap l) (hok : ∀ q ∈ l, q.ok) (hid' : I64 id) (hm : CntM w mb n f) (hn : n + 64 < 1000000) (hmore : -1 ≤ more ∧ more ≤ 1) (hf : ∀ x, -1000000 ≤ f x ∧ f x ≤ 1000000) :
    Calls Try.prog 38 #[tuv la len cap sa sn sc mb tc tm, .int .i64 id, .int .i64 more] w fun e w' => e = .returned (.int .i64 (thereE l id)) ∧ CntM w' mb (n + (upR l id).length) (addC f more (upR l id)) ∧ But mb w w' := by
  have hB0 : Below w.heap.size w (w.alloc (tub la len cap sa sn sc mb tc tm)) := (Below.refl _ w).alloc (Nat.le_refl _) _
  have UA := hid (up_any la len cap l id (w.alloc (tub la len cap sa sn sc mb tc tm)) (h.below hB0) hok hid')
  have M0 := hid (hm.below hB0)
  have HF := hid hf
  have hmb := hm.lt
  have UO := hid (upR_ok hok id)
  have UL := upR_le l id
  have k2 : (w.alloc (tub la len cap sa sn sc mb tc tm)).cell? ⟨w.heap.size, 2, none⟩ = some (.map (some mb)) := by simp [go_sem]
  have K2 := hid k2
  have HB0 := hid hB0
  clear h hok hid' hm hf hB0 k2
  generalize upR l id = ids at *
  generalize thereE l id = TE at *
  go_enter Try.func38, Try.ntmps38
  go_wp2_with fail
  refine UA.out.mono ?_
  rintro e w1 ⟨v1, rfl, o1, b1⟩
  unfold AnsN at o1
  obtain ⟨a1, c1, rfl⟩ := o1.form
  have P1 := hid (o1.holds encN_len)
  have M1 := hid (M0.out.below b1)
  have B1 := hid (HB0.out.trans (b1.mono HB0.out.size))
  have k2 := keepc b1 K2.out
  have ge1 : ∀ x o, a1 = some ⟨x, o, none⟩ → x ≠ mb := fun x o e => by
    subst e
    have := (o1.lt x (by simp [Value.ownBlock])).1
    simp at this
    omega
  have GE := hid ge1
  have hs1 := b1.size
  simp only [World.size_alloc] at hs1
  clear o1 b1 UA M0 HB0 K2 ge1
  obtain ⟨pn, hpn⟩ : ∃ pn, ids.length = pn := ⟨_, rfl⟩
  rw [hpn] at P1 UL ⊢
  have PN := hid hpn
  clear hpn
  go_wp2_with fail
  go_loopw [20] (fun i wr => ∃ k : Nat, k ≤ pn ∧ i = .int .i64 k ∧ Hid (CntM wr mb (n + k) (addC f more (ids.take k))) ∧ Hid (But mb w1 wr)) (fun i _ => pn - (intOf i).toNat)
  case atStart => exact ⟨0, by omega, rfl, by unfold Hid; rw [List.take_zero, addC_nil]; exact M1.out, But.refl _ _⟩
  case round =>
    obtain ⟨k, hk, rfl, hM, hB⟩ := hrel
    by_cases hlt : k < pn
    · have hlt' : k < ids.length := by rw [PN.out]; exact hlt
      obtain ⟨pb, po, rfl, R⟩ := P1.out.rowA (by omega)
      have c0 := hB.out.cell (R k hlt) (GE.out _ _ rfl)
      have c2 := hB.out.cell k2 (by omega)
      clear R
      have hx := UO.out _ (na_mem hlt')
      have tk : ids.take (k + 1) = ids.take k ++ [na ids k] := by rw [List.take_add_one, na_get hlt']; rfl
      have L := hM.out.get hx
      have bnd : -2000000 ≤ addC f more (ids.take k) (na ids k) ∧ addC f more (ids.take k) (na ids k) ≤ 2000000 := by
        have h1 := HF.out (na ids k)
        have h2 : (ids.take k).count (na ids k) ≤ k := Nat.le_trans (List.count_le_length) (by simp; omega)
        unfold addC
        generalize (ids.take k).count (na ids k) = c at *
        obtain ⟨m1, m2⟩ := hmore
        have : more = -1 ∨ more = 0 ∨ more = 1 := by omega
        rcases this with rfl | rfl | rfl <;> omega
      obtain ⟨w', hU, hM', hG⟩ := hM.out.put hx (v := addC f more (ids.take k) (na ids k) + more) (by unfold I64; omega) (by omega)
      rw [addC_snoc, ← tk] at hM'
      have hw : IntKind.i64.wrap (addC f more (ids.take k) (na ids k) + more) = addC f more (ids.take k) (na ids k) + more := by rw [IntKind.wrap_i64]; omega
      have MN := hid hM'
      have BN := hid (hB.out.trans (But.grown hG (by have := hB.out.size; omega)))
      have ka : (0 : Int) ≤ (k : Int) := by omega
      have kb : (k : Int) < (pn : Int) := by omega
      clear hM' hG tk bnd
      generalize addC f more (ids.take k) (na ids k) = cur at *
      generalize na ids k = x at *
      go_wp2
      go_roundw
      case rel => exact ⟨k + 1, by omega, by go_num, MN, BN⟩
      case measure => simp [intOf]; omega
    · have tk : ids.take k = ids := List.take_of_length_le (by rw [PN.out]; omega)
      have kp : k = pn := by omega
      rw [tk, kp] at hM
      go_wp2
      go_ret
      exact ⟨rfl, by rw [PN.out]; exact hM.out, (But.of B1.out (by omega)).trans hB.out⟩

end Go.Proofs.Ytglifgnaecbniaa

namespace Go.Proofs.Ytglifgnaecbniaa
open Go.RowKit Go.Deep Go.Maps Go.Shelf
set_option linter.unusedVariables false
set_option linter.unusedSimpArgs false

/-- How two places compare, by their shares. -/
def cmpAt (l : List Qu) (us : List Us) (tc tm : Int) (a b : Nat) : Int := lev (vecAt l us a).1 (vecAt l us a).2 (qa l a).wt (vecAt l us b).1 (vecAt l us b).2 (qa l b).wt tc tm

set_option maxRecDepth 100000 in
set_option maxHeartbeats 8000000 in
theorem before_any (lb lo len cap sb so sc mb : Nat) (l : List Qu) (us : List Us) (tc tm : Int) (a b : Nat) (w : World) (hR : RowQ w lb lo l) (hV : HoldsV w (some ⟨sb, so, none⟩) len sc (vecsTo l us len)) (hl : l.length = len) (hc : len ≤ cap) (hS : sumsE l us = 0) (ht : okv (tc, tm) = true) (ha : a < len) (hb : b < len) :
    Calls Try.prog 62 #[tuv (some ⟨lb, lo, none⟩) len cap (some ⟨sb, so, none⟩) len sc mb tc tm, .int .i64 (a : Int), .int .i64 (b : Int)] w fun e w' => e = .returned (.bool (decide (cmpAt l us tc tm a b < 0))) ∧ Below w.heap.size w w' := by
  obtain ⟨hC, hFt⟩ := sumsE_zero hS
  have hA := (chkE_ok.1 hC).2.2.1
  have oa := fits_at hFt (i := a) (by omega)
  have ob := fits_at hFt (i := b) (by omega)
  have wa' := (arg_at hA (qa_mem (l := l) (i := a) (by omega))).1
  have wb' := (arg_at hA (qa_mem (l := l) (i := b) (by omega))).1
  have LY := hid (fun W => less_yes (vecAt l us a).1 (vecAt l us a).2 (qa l a).wt (vecAt l us b).1 (vecAt l us b).2 (qa l b).wt tc tm (by unfold leok; simp [oa, ob, ht, wa', wb']) W)
  obtain ⟨x, y, e, hV2⟩ := hV.rowV (by omega)
  cases e
  obtain ⟨s1, s2⟩ := hV2 a ha
  obtain ⟨s3, s4⟩ := hV2 b hb
  rw [va_vecs ha] at s1 s2
  rw [va_vecs hb] at s3 s4
  obtain ⟨_, _, q1, _, _, _, _⟩ := hR.2 a (by omega)
  obtain ⟨_, _, q2, _, _, _, _⟩ := hR.2 b (by omega)
  have scap := hV.2.1
  have E : Hid (cmpAt l us tc tm a b = lev (vecAt l us a).1 (vecAt l us a).2 (qa l a).wt (vecAt l us b).1 (vecAt l us b).2 (qa l b).wt tc tm) := rfl
  have hB0 : Below w.heap.size w (w.alloc (tub (some ⟨lb, lo, none⟩) len cap (some ⟨sb, so, none⟩) len sc mb tc tm)) := (Below.refl _ w).alloc (Nat.le_refl _) _
  clear hC hFt hA oa ob wa' wb' hV2 hR hV hS ht
  generalize lev (vecAt l us a).1 (vecAt l us a).2 (qa l a).wt (vecAt l us b).1 (vecAt l us b).2 (qa l b).wt tc tm = V at *
  generalize vecAt l us a = VA at *
  obtain ⟨A1, A2⟩ := VA
  generalize vecAt l us b = VB at *
  obtain ⟨B1, B2⟩ := VB
  generalize (qa l a).wt = wa at *
  generalize (qa l b).wt = wb at *
  simp only at *
  have aa : (0 : Int) ≤ (a : Int) := by omega
  have ab : (a : Int) < (len : Int) := by omega
  have ba : (0 : Int) ≤ (b : Int) := by omega
  have bb : (b : Int) < (len : Int) := by omega
  replace s1 := keepc hB0 s1
  replace s2 := keepc hB0 s2
  replace s3 := keepc hB0 s3
  replace s4 := keepc hB0 s4
  replace q1 := keepc hB0 q1
  replace q2 := keepc hB0 q2
  have k0 : (w.alloc (tub (some ⟨lb, lo, none⟩) len cap (some ⟨sb, so, none⟩) len sc mb tc tm)).cell? ⟨w.heap.size, 0, none⟩ = some (.slice (some ⟨lb, lo, none⟩) len cap) := by simp [go_sem]
  have k1 : (w.alloc (tub (some ⟨lb, lo, none⟩) len cap (some ⟨sb, so, none⟩) len sc mb tc tm)).cell? ⟨w.heap.size, 1, none⟩ = some (.slice (some ⟨sb, so, none⟩) len sc) := by simp [go_sem]
  have k3 : (w.alloc (tub (some ⟨lb, lo, none⟩) len cap (some ⟨sb, so, none⟩) len sc mb tc tm)).cell? ⟨w.heap.size, 3, none⟩ = some (.int .i64 tc) := by simp [go_sem]
  have k4 : (w.alloc (tub (some ⟨lb, lo, none⟩) len cap (some ⟨sb, so, none⟩) len sc mb tc tm)).cell? ⟨w.heap.size, 4, none⟩ = some (.int .i64 tm) := by simp [go_sem]
  go_enter Try.func62, Try.ntmps62
  go_wp2_with fail
  have BD := hB0.drew
  have e0 := drewc k0
  have e1 := drewc k1
  have e2 := drewc k3
  have e3 := drewc k4
  have e4 := drewc s1
  have e5 := drewc s2
  have e6 := drewc s3
  have e7 := drewc s4
  have e8 := drewc q1
  have e9 := drewc q2
  clear k0 k1 k3 k4 s1 s2 s3 s4 q1 q2 hB0
  refine wp_region_held_drew (S := (fun w' => w'.cell? ⟨w.heap.size, 0, none⟩ = some (.slice (some ⟨lb, lo, none⟩) len cap) ∧ w'.cell? ⟨w.heap.size, 1, none⟩ = some (.slice (some ⟨sb, so, none⟩) len sc) ∧ w'.cell? ⟨w.heap.size, 3, none⟩ = some (.int .i64 tc) ∧ w'.cell? ⟨w.heap.size, 4, none⟩ = some (.int .i64 tm) ∧ w'.cell? ⟨sb, so + a * 2, none⟩ = some (.int .i64 A1) ∧ w'.cell? ⟨sb, so + a * 2 + 1, none⟩ = some (.int .i64 A2) ∧ w'.cell? ⟨sb, so + b * 2, none⟩ = some (.int .i64 B1) ∧ w'.cell? ⟨sb, so + b * 2 + 1, none⟩ = some (.int .i64 B2) ∧ w'.cell? ⟨lb, lo + a * 7 + 2, none⟩ = some (.int .i64 wa) ∧ w'.cell? ⟨lb, lo + b * 7 + 2, none⟩ = some (.int .i64 wb))) (by kernel_rfl) ⟨e0, e1, e2, e3, e4, e5, e6, e7, e8, e9⟩ (fun hHeld => ?_)
  refine wpAnyH_take (i := 0) (v := .pointer (some ⟨w.heap.size, 1, none⟩)) rfl (by kernel_rfl) (by kernel_rfl) (by kernel_rfl) (fun _ _ _ h => h) (Or.inl ⟨by rfl, ?_⟩) (by assumption) ?_
  · (intro w hSw; (try dsimp only at hSw); go_simp)
  (try simp only [Act.put, List.getElem_toArray, List.getElem_cons_succ, List.getElem_cons_zero, List.setIfInBounds_toArray, List.set_cons_zero, List.set_cons_succ])
  refine wpAnyH_take (i := 1) (v := .slice (some ⟨sb, so, none⟩) len sc) rfl (by kernel_rfl) (by kernel_rfl) (by kernel_rfl) (fun _ _ _ h => h) (Or.inl ⟨by rfl, ?_⟩) (by assumption) ?_
  · (intro w hSw; (try dsimp only at hSw); go_simp)
  (try simp only [Act.put, List.getElem_toArray, List.getElem_cons_succ, List.getElem_cons_zero, List.setIfInBounds_toArray, List.set_cons_zero, List.set_cons_succ])
  refine wpAnyH_take (i := 2) (v := .int .i64 (a : Int)) rfl (by kernel_rfl) (by kernel_rfl) (by kernel_rfl) (fun _ _ _ h => h) (Or.inl ⟨by rfl, ?_⟩) (by assumption) ?_
  · (intro w hSw; (try dsimp only at hSw); go_simp)
  (try simp only [Act.put, List.getElem_toArray, List.getElem_cons_succ, List.getElem_cons_zero, List.setIfInBounds_toArray, List.set_cons_zero, List.set_cons_succ])
  refine wpAnyH_take (i := 3) (v := .pointer (some ⟨sb, so + a * 2, none⟩)) rfl (by kernel_rfl) (by kernel_rfl) (by kernel_rfl) (fun _ _ _ h => h) (Or.inl ⟨by rfl, ?_⟩) (by assumption) ?_
  · (intro w hSw; (try dsimp only at hSw); go_simp)
  (try simp only [Act.put, List.getElem_toArray, List.getElem_cons_succ, List.getElem_cons_zero, List.setIfInBounds_toArray, List.set_cons_zero, List.set_cons_succ])
  refine wpAnyH_take (i := 4) (v := .agg #[.int .i64 A1, .int .i64 A2]) rfl (by kernel_rfl) (by kernel_rfl) (by kernel_rfl) (fun _ _ _ h => h) (Or.inl ⟨by rfl, ?_⟩) (by assumption) ?_
  · (intro w hSw; (try dsimp only at hSw); go_simp)
  (try simp only [Act.put, List.getElem_toArray, List.getElem_cons_succ, List.getElem_cons_zero, List.setIfInBounds_toArray, List.set_cons_zero, List.set_cons_succ])
  refine wpAnyH_take (i := 5) (v := .pointer (some ⟨w.heap.size, 0, none⟩)) rfl (by kernel_rfl) (by kernel_rfl) (by kernel_rfl) (fun _ _ _ h => h) (Or.inl ⟨by rfl, ?_⟩) (by assumption) ?_
  · (intro w hSw; (try dsimp only at hSw); go_simp)
  (try simp only [Act.put, List.getElem_toArray, List.getElem_cons_succ, List.getElem_cons_zero, List.setIfInBounds_toArray, List.set_cons_zero, List.set_cons_succ])
  refine wpAnyH_take (i := 6) (v := .slice (some ⟨lb, lo, none⟩) len cap) rfl (by kernel_rfl) (by kernel_rfl) (by kernel_rfl) (fun _ _ _ h => h) (Or.inl ⟨by rfl, ?_⟩) (by assumption) ?_
  · (intro w hSw; (try dsimp only at hSw); go_simp)
  (try simp only [Act.put, List.getElem_toArray, List.getElem_cons_succ, List.getElem_cons_zero, List.setIfInBounds_toArray, List.set_cons_zero, List.set_cons_succ])
  refine wpAnyH_take (i := 7) (v := .int .i64 (a : Int)) rfl (by kernel_rfl) (by kernel_rfl) (by kernel_rfl) (fun _ _ _ h => h) (Or.inl ⟨by rfl, ?_⟩) (by assumption) ?_
  · (intro w hSw; (try dsimp only at hSw); go_simp)
  (try simp only [Act.put, List.getElem_toArray, List.getElem_cons_succ, List.getElem_cons_zero, List.setIfInBounds_toArray, List.set_cons_zero, List.set_cons_succ])
  refine wpAnyH_take (i := 8) (v := .pointer (some ⟨lb, lo + a * 7, none⟩)) rfl (by kernel_rfl) (by kernel_rfl) (by kernel_rfl) (fun _ _ _ h => h) (Or.inl ⟨by rfl, ?_⟩) (by assumption) ?_
  · (intro w hSw; (try dsimp only at hSw); go_simp)
  (try simp only [Act.put, List.getElem_toArray, List.getElem_cons_succ, List.getElem_cons_zero, List.setIfInBounds_toArray, List.set_cons_zero, List.set_cons_succ])
  refine wpAnyH_take (i := 9) (v := .pointer (some ⟨lb, lo + a * 7 + 2, none⟩)) rfl (by kernel_rfl) (by kernel_rfl) (by kernel_rfl) (fun _ _ _ h => h) (Or.inl ⟨by rfl, ?_⟩) (by assumption) ?_
  · (intro w hSw; (try dsimp only at hSw); go_simp)
  (try simp only [Act.put, List.getElem_toArray, List.getElem_cons_succ, List.getElem_cons_zero, List.setIfInBounds_toArray, List.set_cons_zero, List.set_cons_succ])
  refine wpAnyH_take (i := 10) (v := .int .i64 wa) rfl (by kernel_rfl) (by kernel_rfl) (by kernel_rfl) (fun _ _ _ h => h) (Or.inl ⟨by rfl, ?_⟩) (by assumption) ?_
  · (intro w hSw; (try dsimp only at hSw); go_simp)
  (try simp only [Act.put, List.getElem_toArray, List.getElem_cons_succ, List.getElem_cons_zero, List.setIfInBounds_toArray, List.set_cons_zero, List.set_cons_succ])
  refine wpAnyH_take (i := 11) (v := .pointer (some ⟨w.heap.size, 1, none⟩)) rfl (by kernel_rfl) (by kernel_rfl) (by kernel_rfl) (fun _ _ _ h => h) (Or.inl ⟨by rfl, ?_⟩) (by assumption) ?_
  · (intro w hSw; (try dsimp only at hSw); go_simp)
  (try simp only [Act.put, List.getElem_toArray, List.getElem_cons_succ, List.getElem_cons_zero, List.setIfInBounds_toArray, List.set_cons_zero, List.set_cons_succ])
  refine wpAnyH_take (i := 12) (v := .slice (some ⟨sb, so, none⟩) len sc) rfl (by kernel_rfl) (by kernel_rfl) (by kernel_rfl) (fun _ _ _ h => h) (Or.inl ⟨by rfl, ?_⟩) (by assumption) ?_
  · (intro w hSw; (try dsimp only at hSw); go_simp)
  (try simp only [Act.put, List.getElem_toArray, List.getElem_cons_succ, List.getElem_cons_zero, List.setIfInBounds_toArray, List.set_cons_zero, List.set_cons_succ])
  refine wpAnyH_take (i := 13) (v := .int .i64 (b : Int)) rfl (by kernel_rfl) (by kernel_rfl) (by kernel_rfl) (fun _ _ _ h => h) (Or.inl ⟨by rfl, ?_⟩) (by assumption) ?_
  · (intro w hSw; (try dsimp only at hSw); go_simp)
  (try simp only [Act.put, List.getElem_toArray, List.getElem_cons_succ, List.getElem_cons_zero, List.setIfInBounds_toArray, List.set_cons_zero, List.set_cons_succ])
  refine wpAnyH_take (i := 14) (v := .pointer (some ⟨sb, so + b * 2, none⟩)) rfl (by kernel_rfl) (by kernel_rfl) (by kernel_rfl) (fun _ _ _ h => h) (Or.inl ⟨by rfl, ?_⟩) (by assumption) ?_
  · (intro w hSw; (try dsimp only at hSw); go_simp)
  (try simp only [Act.put, List.getElem_toArray, List.getElem_cons_succ, List.getElem_cons_zero, List.setIfInBounds_toArray, List.set_cons_zero, List.set_cons_succ])
  refine wpAnyH_take (i := 15) (v := .agg #[.int .i64 B1, .int .i64 B2]) rfl (by kernel_rfl) (by kernel_rfl) (by kernel_rfl) (fun _ _ _ h => h) (Or.inl ⟨by rfl, ?_⟩) (by assumption) ?_
  · (intro w hSw; (try dsimp only at hSw); go_simp)
  (try simp only [Act.put, List.getElem_toArray, List.getElem_cons_succ, List.getElem_cons_zero, List.setIfInBounds_toArray, List.set_cons_zero, List.set_cons_succ])
  refine wpAnyH_take (i := 16) (v := .pointer (some ⟨w.heap.size, 0, none⟩)) rfl (by kernel_rfl) (by kernel_rfl) (by kernel_rfl) (fun _ _ _ h => h) (Or.inl ⟨by rfl, ?_⟩) (by assumption) ?_
  · (intro w hSw; (try dsimp only at hSw); go_simp)
  (try simp only [Act.put, List.getElem_toArray, List.getElem_cons_succ, List.getElem_cons_zero, List.setIfInBounds_toArray, List.set_cons_zero, List.set_cons_succ])
  refine wpAnyH_take (i := 17) (v := .slice (some ⟨lb, lo, none⟩) len cap) rfl (by kernel_rfl) (by kernel_rfl) (by kernel_rfl) (fun _ _ _ h => h) (Or.inl ⟨by rfl, ?_⟩) (by assumption) ?_
  · (intro w hSw; (try dsimp only at hSw); go_simp)
  (try simp only [Act.put, List.getElem_toArray, List.getElem_cons_succ, List.getElem_cons_zero, List.setIfInBounds_toArray, List.set_cons_zero, List.set_cons_succ])
  refine wpAnyH_take (i := 18) (v := .int .i64 (b : Int)) rfl (by kernel_rfl) (by kernel_rfl) (by kernel_rfl) (fun _ _ _ h => h) (Or.inl ⟨by rfl, ?_⟩) (by assumption) ?_
  · (intro w hSw; (try dsimp only at hSw); go_simp)
  (try simp only [Act.put, List.getElem_toArray, List.getElem_cons_succ, List.getElem_cons_zero, List.setIfInBounds_toArray, List.set_cons_zero, List.set_cons_succ])
  refine wpAnyH_take (i := 19) (v := .pointer (some ⟨lb, lo + b * 7, none⟩)) rfl (by kernel_rfl) (by kernel_rfl) (by kernel_rfl) (fun _ _ _ h => h) (Or.inl ⟨by rfl, ?_⟩) (by assumption) ?_
  · (intro w hSw; (try dsimp only at hSw); go_simp)
  (try simp only [Act.put, List.getElem_toArray, List.getElem_cons_succ, List.getElem_cons_zero, List.setIfInBounds_toArray, List.set_cons_zero, List.set_cons_succ])
  refine wpAnyH_take (i := 20) (v := .pointer (some ⟨lb, lo + b * 7 + 2, none⟩)) rfl (by kernel_rfl) (by kernel_rfl) (by kernel_rfl) (fun _ _ _ h => h) (Or.inl ⟨by rfl, ?_⟩) (by assumption) ?_
  · (intro w hSw; (try dsimp only at hSw); go_simp)
  (try simp only [Act.put, List.getElem_toArray, List.getElem_cons_succ, List.getElem_cons_zero, List.setIfInBounds_toArray, List.set_cons_zero, List.set_cons_succ])
  refine wpAnyH_take (i := 21) (v := .int .i64 wb) rfl (by kernel_rfl) (by kernel_rfl) (by kernel_rfl) (fun _ _ _ h => h) (Or.inl ⟨by rfl, ?_⟩) (by assumption) ?_
  · (intro w hSw; (try dsimp only at hSw); go_simp)
  (try simp only [Act.put, List.getElem_toArray, List.getElem_cons_succ, List.getElem_cons_zero, List.setIfInBounds_toArray, List.set_cons_zero, List.set_cons_succ])
  refine wpAnyH_take (i := 22) (v := .pointer (some ⟨w.heap.size, 3, none⟩)) rfl (by kernel_rfl) (by kernel_rfl) (by kernel_rfl) (fun _ _ _ h => h) (Or.inl ⟨by rfl, ?_⟩) (by assumption) ?_
  · (intro w hSw; (try dsimp only at hSw); go_simp)
  (try simp only [Act.put, List.getElem_toArray, List.getElem_cons_succ, List.getElem_cons_zero, List.setIfInBounds_toArray, List.set_cons_zero, List.set_cons_succ])
  refine wpAnyH_take (i := 23) (v := .agg #[.int .i64 tc, .int .i64 tm]) rfl (by kernel_rfl) (by kernel_rfl) (by kernel_rfl) (fun _ _ _ h => h) (Or.inl ⟨by rfl, ?_⟩) (by assumption) ?_
  · (intro w hSw; (try dsimp only at hSw); go_simp)
  (try simp only [Act.put, List.getElem_toArray, List.getElem_cons_succ, List.getElem_cons_zero, List.setIfInBounds_toArray, List.set_cons_zero, List.set_cons_succ])
  refine wpAnyH_ready (rs := [24]) (by kernel_rfl) (by simp) ?_
  refine AllReadyH.cons rfl (fun K hK => ?_) AllReadyH.nil
  go_simp
  refine (LY.out _).mono ?_
  rintro e w1 ⟨rfl, b1⟩
  have e0 := keepc b1 e0
  have e1 := keepc b1 e1
  have e2 := keepc b1 e2
  have e3 := keepc b1 e3
  have e4 := keepc b1 e4
  have e5 := keepc b1 e5
  have e6 := keepc b1 e6
  have e7 := keepc b1 e7
  have e8 := keepc b1 e8
  have e9 := keepc b1 e9
  have BD := BD.trans (b1.mono BD.size)
  clear b1
  refine hK.out _ _ ⟨e0, e1, e2, e3, e4, e5, e6, e7, e8, e9⟩ (fun hHeld => ?_)
  clear hK K
  (try simp only [Act.put, List.getElem_toArray, List.getElem_cons_succ, List.getElem_cons_zero, List.setIfInBounds_toArray, List.set_cons_zero, List.set_cons_succ])
  refine wpAnyH_take (i := 25) (v := .tuple #[.int .i64 V, .int .i64 0]) rfl (by kernel_rfl) (by kernel_rfl) (by kernel_rfl) (fun _ _ _ h => h) (Or.inl ⟨by rfl, ?_⟩) (by assumption) ?_
  · (intro w hSw; (try dsimp only at hSw); go_simp)
  (try simp only [Act.put, List.getElem_toArray, List.getElem_cons_succ, List.getElem_cons_zero, List.setIfInBounds_toArray, List.set_cons_zero, List.set_cons_succ])
  refine wpAnyH_take (i := 26) (v := .int .i64 V) rfl (by kernel_rfl) (by kernel_rfl) (by kernel_rfl) (fun _ _ _ h => h) (Or.inl ⟨by rfl, ?_⟩) (by assumption) ?_
  · (intro w hSw; (try dsimp only at hSw); go_simp)
  (try simp only [Act.put, List.getElem_toArray, List.getElem_cons_succ, List.getElem_cons_zero, List.setIfInBounds_toArray, List.set_cons_zero, List.set_cons_succ])
  refine wpAnyH_take (i := 27) (v := .int .i64 0) rfl (by kernel_rfl) (by kernel_rfl) (by kernel_rfl) (fun _ _ _ h => h) (Or.inl ⟨by rfl, ?_⟩) (by assumption) ?_
  · (intro w hSw; (try dsimp only at hSw); go_simp)
  (try simp only [Act.put, List.getElem_toArray, List.getElem_cons_succ, List.getElem_cons_zero, List.setIfInBounds_toArray, List.set_cons_zero, List.set_cons_succ])
  refine wpAnyH_take (i := 28) (v := .int .i64 V) rfl (by kernel_rfl) (by kernel_rfl) (by kernel_rfl) (fun _ _ _ h => h) (Or.inl ⟨by rfl, ?_⟩) (by assumption) ?_
  · (intro w hSw; (try dsimp only at hSw); go_simp)
  (try simp only [Act.put, List.getElem_toArray, List.getElem_cons_succ, List.getElem_cons_zero, List.setIfInBounds_toArray, List.set_cons_zero, List.set_cons_succ])
  refine wpAnyH_take (i := 29) (v := .int .i64 0) rfl (by kernel_rfl) (by kernel_rfl) (by kernel_rfl) (fun _ _ _ h => h) (Or.inl ⟨by rfl, ?_⟩) (by assumption) ?_
  · (intro w hSw; (try dsimp only at hSw); go_simp)
  (try simp only [Act.put, List.getElem_toArray, List.getElem_cons_succ, List.getElem_cons_zero, List.setIfInBounds_toArray, List.set_cons_zero, List.set_cons_succ])
  refine wpAnyH_done (by kernel_rfl) ?_ _
  go_wp2
  go_ret
  exact ⟨retb (by rw [E.out]), BD⟩

end Go.Proofs.Ytglifgnaecbniaa

namespace Go.Proofs.Ytglifgnaecbniaa
open Go.RowKit Go.Deep Go.Maps Go.Shelf
set_option linter.unusedVariables false
set_option linter.unusedSimpArgs false

/-- The best of the first k children that wait; -1: none. -/
def bstI (l : List Qu) (us : List Us) (tc tm : Int) (f : Int → Int) (p : Int) : Nat → Int
  | 0 => -1
  | k + 1 => if (qa l k).par = p ∧ f (qa l k).id ≠ 0 then (if bstI l us tc tm f p k = -1 then (k : Int) else if cmpAt l us tc tm k (bstI l us tc tm f p k).toNat < 0 then (k : Int) else bstI l us tc tm f p k) else bstI l us tc tm f p k
theorem bst_form (l : List Qu) (us : List Us) (tc tm : Int) (f : Int → Int) (p : Int) : ∀ k, bstI l us tc tm f p k = -1 ∨ ∃ b : Nat, b < k ∧ bstI l us tc tm f p k = (b : Int) ∧ (qa l b).par = p ∧ f (qa l b).id ≠ 0 := by
  intro k
  induction k with
  | zero => exact .inl rfl
  | succ k ih =>
    unfold bstI
    by_cases hc : (qa l k).par = p ∧ f (qa l k).id ≠ 0
    · rw [if_pos hc]
      split
      · exact .inr ⟨k, by omega, rfl, hc⟩
      · split
        · exact .inr ⟨k, by omega, rfl, hc⟩
        · rcases ih with h | ⟨b, h1, h2, h3⟩
          · rename_i h0 _; exact absurd h h0
          · exact .inr ⟨b, by omega, h2, h3⟩
    · rw [if_neg hc]
      rcases ih with h | ⟨b, h1, h2, h3⟩
      · exact .inl h
      · exact .inr ⟨b, by omega, h2, h3⟩
/-- The place to which the descent leads. -/
def desc (l : List Qu) (us : List Us) (tc tm : Int) (f : Int → Int) (h : Nat) : Nat :=
  if hb : h < (bstI l us tc tm f (qa l h).id l.length).toNat ∧ (bstI l us tc tm f (qa l h).id l.length).toNat < l.length then desc l us tc tm f (bstI l us tc tm f (qa l h).id l.length).toNat else h
termination_by l.length - h
theorem desc_stop {l : List Qu} {us : List Us} {tc tm : Int} {f : Int → Int} {h : Nat} (e : bstI l us tc tm f (qa l h).id l.length = -1) : desc l us tc tm f h = h := by
  rw [desc, dif_neg]
  rw [e]
  simp
theorem desc_step {l : List Qu} {us : List Us} {tc tm : Int} {f : Int → Int} (hF : Form l) {h b : Nat} (hh : h < l.length) (hb : b < l.length) (e : bstI l us tc tm f (qa l h).id l.length = (b : Int)) (hp : (qa l b).par = (qa l h).id) : h < b ∧ desc l us tc tm f h = desc l us tc tm f b := by
  have hb0 : b ≠ 0 := fun e0 => by
    subst e0
    have := hF.root.2
    have h1 := hF.id_nonneg hh
    rw [hp] at this; omega
  have hlt : h < b := by
    have := hF.up hb hb0
    rw [hp, hF.pl hh] at this; exact this
  refine ⟨hlt, ?_⟩
  rw [desc, dif_pos (by rw [e]; simp; exact ⟨hlt, hb⟩), e]
  simp

set_option maxRecDepth 100000 in
set_option maxHeartbeats 16000000 in
theorem next_any (lb lo len cap sb so sc mb n : Nat) (l : List Qu) (us : List Us) (tc tm : Int) (f : Int → Int) (w : World) (hR : RowQ w lb lo l) (hV : HoldsV w (some ⟨sb, so, none⟩) len sc (vecsTo l us len)) (hl : l.length = len) (hc : len ≤ cap) (hS : sumsE l us = 0) (ht : okv (tc, tm) = true) (hM : CntM w mb n f) (hok : ∀ q ∈ l, q.ok) :
    Calls Try.prog 35 #[tuv (some ⟨lb, lo, none⟩) len cap (some ⟨sb, so, none⟩) len sc mb tc tm] w fun e w' => e = .returned (.int .i64 (qa l (desc l us tc tm f 0)).id) ∧ Below w.heap.size w w' := by
  have hB0 : Below w.heap.size w (w.alloc (tub (some ⟨lb, lo, none⟩) len cap (some ⟨sb, so, none⟩) len sc mb tc tm)) := (Below.refl _ w).alloc (Nat.le_refl _) _
  have hG := chkE_ok.1 (sumsE_zero hS).1
  have hle : len ≤ 64 := by rw [← hl]; exact hG.1
  have hpos : 0 < len := by rw [← hl]; exact hG.2.1.1
  have HF := hid hG.2.1
  have HR := hid (hR.below hB0)
  have HV := hid (hV.below hB0)
  have HM := hid (hM.below hB0)
  have HL := hid hl
  have HS := hid hS
  have HT := hid ht
  have HO := hid hok
  have HB0 := hid hB0
  have k0 : (w.alloc (tub (some ⟨lb, lo, none⟩) len cap (some ⟨sb, so, none⟩) len sc mb tc tm)).cell? ⟨w.heap.size, 0, none⟩ = some (.slice (some ⟨lb, lo, none⟩) len cap) := by simp [go_sem]
  have k1 : (w.alloc (tub (some ⟨lb, lo, none⟩) len cap (some ⟨sb, so, none⟩) len sc mb tc tm)).cell? ⟨w.heap.size, 1, none⟩ = some (.slice (some ⟨sb, so, none⟩) len sc) := by simp [go_sem]
  have k2 : (w.alloc (tub (some ⟨lb, lo, none⟩) len cap (some ⟨sb, so, none⟩) len sc mb tc tm)).cell? ⟨w.heap.size, 2, none⟩ = some (.map (some mb)) := by simp [go_sem]
  have k3 : (w.alloc (tub (some ⟨lb, lo, none⟩) len cap (some ⟨sb, so, none⟩) len sc mb tc tm)).cell? ⟨w.heap.size, 3, none⟩ = some (.int .i64 tc) := by simp [go_sem]
  have k4 : (w.alloc (tub (some ⟨lb, lo, none⟩) len cap (some ⟨sb, so, none⟩) len sc mb tc tm)).cell? ⟨w.heap.size, 4, none⟩ = some (.int .i64 tm) := by simp [go_sem]
  have K0 := hid k0
  have K1 := hid k1
  have K2 := hid k2
  have K3 := hid k3
  have K4 := hid k4
  clear hR hV hM hl hS ht hok hB0 hG k0 k1 k2 k3 k4
  go_enter Try.func35, Try.ntmps35
  go_wp2_with fail
  go_step3
  go_wp2_with fail
  go_step3
  go_wp2_with fail
  generalize (w.alloc (tub (some ⟨lb, lo, none⟩) len cap (some ⟨sb, so, none⟩) len sc mb tc tm)) = w0 at *
  go_loopw [3] (fun x wr => ∃ h : Nat, h < len ∧ x = .int .i64 (h : Int) ∧ Hid (desc l us tc tm f 0 = desc l us tc tm f h) ∧ Hid (Below w0.heap.size w0 wr)) (fun x _ => len - (intOf x).toNat)
  case atStart => exact ⟨0, hpos, rfl, rfl, Below.refl _ _⟩
  case round =>
    obtain ⟨h, hh, rfl, hD, hB⟩ := hrel
    have c0 := keepc hB.out K0.out
    have hh' : h < l.length := by rw [HL.out]; exact hh
    go_wp2_with fail
    go_step3
    go_wp2_with fail
    go_step3
    go_wp2_with fail
    rename World => w2
    have WB := hid hB.out
    clear c0
    go_loopw [10, 4] (fun x b wr => ∃ k : Nat, k ≤ len ∧ x = .int .i64 (k : Int) ∧ b = .int .i64 (bstI l us tc tm f (qa l h).id k) ∧ Hid (Below w0.heap.size w0 wr)) (fun x _ _ => len - (intOf x).toNat)
    case atStart => exact ⟨0, by omega, rfl, rfl, WB⟩
    case round =>
      clear hB
      obtain ⟨k, hk, rfl, rfl, hB⟩ := hrel
      by_cases hlt : k < len
      · have hlt' : k < l.length := by rw [HL.out]; exact hlt
        obtain ⟨c0, c1, c2, c3, c4, c5, c6⟩ := (HR.out.below hB.out).2 k hlt'
        obtain ⟨d0, _, _, _, _, _, _⟩ := (HR.out.below hB.out).2 h hh'
        have BS : Hid (bstI l us tc tm f (qa l h).id (k + 1) = if (qa l k).par = (qa l h).id ∧ f (qa l k).id ≠ 0 then (if bstI l us tc tm f (qa l h).id k = -1 then (k : Int) else if cmpAt l us tc tm k (bstI l us tc tm f (qa l h).id k).toNat < 0 then (k : Int) else bstI l us tc tm f (qa l h).id k) else bstI l us tc tm f (qa l h).id k) := rfl
        have BF := hid (bst_form l us tc tm f (qa l h).id k)
        have QI := hid (qa_ok HO.out k).1
        obtain ⟨FX, hFX⟩ : ∃ FX, f (qa l k).id = FX := ⟨_, rfl⟩
        have HFX := hid hFX
        rw [hFX] at BS
        clear hFX
        generalize (qa l h).id = ID at *
        generalize qa l k = q at *
        obtain ⟨q1, q2, q3, q4, q5, q6, q7⟩ := q
        simp only at *
        have kA := (Below.refl _ wr).alloc (Nat.le_refl _) (.cells #[.int .i64 q1, .int .i64 q2, .int .i64 q3, .int .i64 q4, .int .i64 q5, .int .i64 q6, .int .i64 q7] 42)
        have BA := hid (hB.out.alloc hB.out.size (.cells #[.int .i64 q1, .int .i64 q2, .int .i64 q3, .int .i64 q4, .int .i64 q5, .int .i64 q6, .int .i64 q7] 42))
        have x0 := keepc BA.out K0.out
        have x2 := keepc BA.out K2.out
        have z0 := keepc kA d0
        have MC := HM.out.below BA.out
        have y0 : (wr.alloc (.cells #[.int .i64 q1, .int .i64 q2, .int .i64 q3, .int .i64 q4, .int .i64 q5, .int .i64 q6, .int .i64 q7] 42)).cell? ⟨wr.heap.size, 0, none⟩ = some (.int .i64 q1) := by simp [go_sem]
        have y1 : (wr.alloc (.cells #[.int .i64 q1, .int .i64 q2, .int .i64 q3, .int .i64 q4, .int .i64 q5, .int .i64 q6, .int .i64 q7] 42)).cell? ⟨wr.heap.size, 1, none⟩ = some (.int .i64 q2) := by simp [go_sem]
        have ka : (0 : Int) ≤ (k : Int) := by omega
        have kb : (k : Int) < (len : Int) := by omega
        have ha : (0 : Int) ≤ (h : Int) := by omega
        have hb : (h : Int) < (len : Int) := by omega
        clear kA d0
        go_wp2_with fail
        clear c0 c1 c2 c3 c4 c5 c6
        generalize (wr.alloc (.cells #[.int .i64 q1, .int .i64 q2, .int .i64 q3, .int .i64 q4, .int .i64 q5, .int .i64 q6, .int .i64 q7] 42)) = w6 at *
        generalize wr.heap.size = QK at *
        have BD := hid BA.out.drew
        by_cases hp : q2 = ID
        · have tp : (q2 != ID) = false := by simpa using hp
          by_cases hz : FX = 0
          · have tz : (FX == 0) = true := by simpa using hz
            have EB : Hid (bstI l us tc tm f ID (k + 1) = bstI l us tc tm f ID k) := by unfold Hid; rw [BS.out, if_neg (fun h => h.2 hz)]
            clear BS hp hz
            refine wp_region_held_drew (S := (fun w' => w'.cell? ⟨w.heap.size, 0, none⟩ = some (.slice (some ⟨lb, lo, none⟩) len cap) ∧ w'.cell? ⟨w.heap.size, 2, none⟩ = some (.map (some mb)) ∧ w'.cell? ⟨QK, 0, none⟩ = some (.int .i64 q1) ∧ w'.cell? ⟨QK, 1, none⟩ = some (.int .i64 q2) ∧ w'.cell? ⟨lb, lo + h * 7, none⟩ = some (.int .i64 ID) ∧ CntM w' mb n f)) (by kernel_rfl) ⟨drewc x0, drewc x2, drewc y0, drewc y1, drewc z0, MC⟩ (fun hHeld => ?_)
            refine wpAnyH_take (i := 0) (v := .pointer (some ⟨QK, 1, none⟩)) rfl (by kernel_rfl) (by kernel_rfl) (by kernel_rfl) (fun _ _ _ h => h) (Or.inl ⟨by rfl, ?_⟩) (by assumption) ?_
            · (intro w hSw; (try dsimp only at hSw); go_simp)
            (try simp only [Act.put, List.getElem_toArray, List.getElem_cons_succ, List.getElem_cons_zero, List.setIfInBounds_toArray, List.set_cons_zero, List.set_cons_succ])
            refine wpAnyH_take (i := 1) (v := .int .i64 q2) rfl (by kernel_rfl) (by kernel_rfl) (by kernel_rfl) (fun _ _ _ h => h) (Or.inl ⟨by rfl, ?_⟩) (by assumption) ?_
            · (intro w hSw; (try dsimp only at hSw); go_simp)
            (try simp only [Act.put, List.getElem_toArray, List.getElem_cons_succ, List.getElem_cons_zero, List.setIfInBounds_toArray, List.set_cons_zero, List.set_cons_succ])
            refine wpAnyH_take (i := 2) (v := .pointer (some ⟨w.heap.size, 0, none⟩)) rfl (by kernel_rfl) (by kernel_rfl) (by kernel_rfl) (fun _ _ _ h => h) (Or.inl ⟨by rfl, ?_⟩) (by assumption) ?_
            · (intro w hSw; (try dsimp only at hSw); go_simp)
            (try simp only [Act.put, List.getElem_toArray, List.getElem_cons_succ, List.getElem_cons_zero, List.setIfInBounds_toArray, List.set_cons_zero, List.set_cons_succ])
            refine wpAnyH_take (i := 3) (v := .slice (some ⟨lb, lo, none⟩) len cap) rfl (by kernel_rfl) (by kernel_rfl) (by kernel_rfl) (fun _ _ _ h => h) (Or.inl ⟨by rfl, ?_⟩) (by assumption) ?_
            · (intro w hSw; (try dsimp only at hSw); go_simp)
            (try simp only [Act.put, List.getElem_toArray, List.getElem_cons_succ, List.getElem_cons_zero, List.setIfInBounds_toArray, List.set_cons_zero, List.set_cons_succ])
            refine wpAnyH_take (i := 4) (v := .int .i64 (h : Int)) rfl (by kernel_rfl) (by kernel_rfl) (by kernel_rfl) (fun _ _ _ h => h) (Or.inl ⟨by rfl, ?_⟩) (by assumption) ?_
            · (intro w hSw; (try dsimp only at hSw); go_simp)
            (try simp only [Act.put, List.getElem_toArray, List.getElem_cons_succ, List.getElem_cons_zero, List.setIfInBounds_toArray, List.set_cons_zero, List.set_cons_succ])
            refine wpAnyH_take (i := 5) (v := .pointer (some ⟨lb, lo + h * 7, none⟩)) rfl (by kernel_rfl) (by kernel_rfl) (by kernel_rfl) (fun _ _ _ h => h) (Or.inl ⟨by rfl, ?_⟩) (by assumption) ?_
            · (intro w hSw; (try dsimp only at hSw); go_simp)
            (try simp only [Act.put, List.getElem_toArray, List.getElem_cons_succ, List.getElem_cons_zero, List.setIfInBounds_toArray, List.set_cons_zero, List.set_cons_succ])
            refine wpAnyH_take (i := 6) (v := .pointer (some ⟨lb, lo + h * 7, none⟩)) rfl (by kernel_rfl) (by kernel_rfl) (by kernel_rfl) (fun _ _ _ h => h) (Or.inl ⟨by rfl, ?_⟩) (by assumption) ?_
            · (intro w hSw; (try dsimp only at hSw); go_simp)
            (try simp only [Act.put, List.getElem_toArray, List.getElem_cons_succ, List.getElem_cons_zero, List.setIfInBounds_toArray, List.set_cons_zero, List.set_cons_succ])
            refine wpAnyH_take (i := 7) (v := .int .i64 ID) rfl (by kernel_rfl) (by kernel_rfl) (by kernel_rfl) (fun _ _ _ h => h) (Or.inl ⟨by rfl, ?_⟩) (by assumption) ?_
            · (intro w hSw; (try dsimp only at hSw); go_simp)
            (try simp only [Act.put, List.getElem_toArray, List.getElem_cons_succ, List.getElem_cons_zero, List.setIfInBounds_toArray, List.set_cons_zero, List.set_cons_succ])
            refine wpAnyH_take (i := 8) (v := .bool false) rfl (by kernel_rfl) (by kernel_rfl) (by kernel_rfl) (fun _ _ _ h => h) (Or.inl ⟨by rfl, ?_⟩) (by assumption) ?_
            · (intro w hSw; (try dsimp only at hSw); go_simp)
            (try simp only [Act.put, List.getElem_toArray, List.getElem_cons_succ, List.getElem_cons_zero, List.setIfInBounds_toArray, List.set_cons_zero, List.set_cons_succ])
            refine wpAnyH_take (i := 9) (v := .bool false) rfl (by kernel_rfl) (by kernel_rfl) (by kernel_rfl) (fun _ _ _ h => h) (Or.inl ⟨by rfl, ?_⟩) (by assumption) ?_
            · (intro w hSw; (try dsimp only at hSw); go_simp)
            (try simp only [Act.put, List.getElem_toArray, List.getElem_cons_succ, List.getElem_cons_zero, List.setIfInBounds_toArray, List.set_cons_zero, List.set_cons_succ])
            refine wpAnyH_take (i := 10) (v := .pointer (some ⟨w.heap.size, 2, none⟩)) rfl (by kernel_rfl) (by kernel_rfl) (by kernel_rfl) (fun _ _ _ h => h) (Or.inl ⟨by rfl, ?_⟩) (by assumption) ?_
            · (intro w hSw; (try dsimp only at hSw); go_simp)
            (try simp only [Act.put, List.getElem_toArray, List.getElem_cons_succ, List.getElem_cons_zero, List.setIfInBounds_toArray, List.set_cons_zero, List.set_cons_succ])
            refine wpAnyH_take (i := 11) (v := .map (some mb)) rfl (by kernel_rfl) (by kernel_rfl) (by kernel_rfl) (fun _ _ _ h => h) (Or.inl ⟨by rfl, ?_⟩) (by assumption) ?_
            · (intro w hSw; (try dsimp only at hSw); go_simp)
            (try simp only [Act.put, List.getElem_toArray, List.getElem_cons_succ, List.getElem_cons_zero, List.setIfInBounds_toArray, List.set_cons_zero, List.set_cons_succ])
            refine wpAnyH_take (i := 12) (v := .pointer (some ⟨QK, 0, none⟩)) rfl (by kernel_rfl) (by kernel_rfl) (by kernel_rfl) (fun _ _ _ h => h) (Or.inl ⟨by rfl, ?_⟩) (by assumption) ?_
            · (intro w hSw; (try dsimp only at hSw); go_simp)
            (try simp only [Act.put, List.getElem_toArray, List.getElem_cons_succ, List.getElem_cons_zero, List.setIfInBounds_toArray, List.set_cons_zero, List.set_cons_succ])
            refine wpAnyH_take (i := 13) (v := .int .i64 q1) rfl (by kernel_rfl) (by kernel_rfl) (by kernel_rfl) (fun _ _ _ h => h) (Or.inl ⟨by rfl, ?_⟩) (by assumption) ?_
            · (intro w hSw; (try dsimp only at hSw); go_simp)
            (try simp only [Act.put, List.getElem_toArray, List.getElem_cons_succ, List.getElem_cons_zero, List.setIfInBounds_toArray, List.set_cons_zero, List.set_cons_succ])
            refine wpAnyH_take (i := 14) (v := .int .i64 FX) rfl (by kernel_rfl) (by kernel_rfl) (by kernel_rfl) (fun _ _ _ h => h) (Or.inl ⟨by rfl, ?_⟩) (by assumption) ?_
            · (intro w hSw; have L := hSw.2.2.2.2.2.get QI.out; rw [HFX.out] at L; (try dsimp only at hSw); go_simp)
            (try simp only [Act.put, List.getElem_toArray, List.getElem_cons_succ, List.getElem_cons_zero, List.setIfInBounds_toArray, List.set_cons_zero, List.set_cons_succ])
            refine wpAnyH_take (i := 15) (v := .bool true) rfl (by kernel_rfl) (by kernel_rfl) (by kernel_rfl) (fun _ _ _ h => h) (Or.inl ⟨by rfl, ?_⟩) (by assumption) ?_
            · (intro w hSw; (try dsimp only at hSw); go_simp)
            (try simp only [Act.put, List.getElem_toArray, List.getElem_cons_succ, List.getElem_cons_zero, List.setIfInBounds_toArray, List.set_cons_zero, List.set_cons_succ])
            refine wpAnyH_take (i := 16) (v := .bool true) rfl (by kernel_rfl) (by kernel_rfl) (by kernel_rfl) (fun _ _ _ h => h) (Or.inl ⟨by rfl, ?_⟩) (by assumption) ?_
            · (intro w hSw; (try dsimp only at hSw); go_simp)
            (try simp only [Act.put, List.getElem_toArray, List.getElem_cons_succ, List.getElem_cons_zero, List.setIfInBounds_toArray, List.set_cons_zero, List.set_cons_succ])
            refine wpAnyH_take (i := 17) (v := .bool true) rfl (by kernel_rfl) (by kernel_rfl) (by kernel_rfl) (fun _ _ _ h => h) (Or.inl ⟨by rfl, ?_⟩) (by assumption) ?_
            · (intro w hSw; (try dsimp only at hSw); go_simp)
            (try simp only [Act.put, List.getElem_toArray, List.getElem_cons_succ, List.getElem_cons_zero, List.setIfInBounds_toArray, List.set_cons_zero, List.set_cons_succ])
            refine wpAnyH_done (by kernel_rfl) ?_ _
            go_wp2
            go_roundw
            case rel => exact ⟨k + 1, by omega, by go_num, by rw [EB.out], BD⟩
            case measure => simp [intOf]; omega
          · have tz : (FX == 0) = false := by simpa using hz
            have EB : Hid (bstI l us tc tm f ID (k + 1) = if bstI l us tc tm f ID k = -1 then (k : Int) else if cmpAt l us tc tm k (bstI l us tc tm f ID k).toNat < 0 then (k : Int) else bstI l us tc tm f ID k) := by unfold Hid; rw [BS.out, if_pos ⟨hp, hz⟩]
            clear BS hp hz
            rcases BF.out with hn | ⟨b, hbk, hbe, _⟩
            · have EC : Hid (bstI l us tc tm f ID (k + 1) = (k : Int)) := by unfold Hid; rw [EB.out, if_pos hn]
              rw [hn]
              clear EB hn BF
              refine wp_region_held_drew (S := (fun w' => w'.cell? ⟨w.heap.size, 0, none⟩ = some (.slice (some ⟨lb, lo, none⟩) len cap) ∧ w'.cell? ⟨w.heap.size, 2, none⟩ = some (.map (some mb)) ∧ w'.cell? ⟨QK, 0, none⟩ = some (.int .i64 q1) ∧ w'.cell? ⟨QK, 1, none⟩ = some (.int .i64 q2) ∧ w'.cell? ⟨lb, lo + h * 7, none⟩ = some (.int .i64 ID) ∧ CntM w' mb n f)) (by kernel_rfl) ⟨drewc x0, drewc x2, drewc y0, drewc y1, drewc z0, MC⟩ (fun hHeld => ?_)
              refine wpAnyH_take (i := 0) (v := .pointer (some ⟨QK, 1, none⟩)) rfl (by kernel_rfl) (by kernel_rfl) (by kernel_rfl) (fun _ _ _ h => h) (Or.inl ⟨by rfl, ?_⟩) (by assumption) ?_
              · (intro w hSw; (try dsimp only at hSw); go_simp)
              (try simp only [Act.put, List.getElem_toArray, List.getElem_cons_succ, List.getElem_cons_zero, List.setIfInBounds_toArray, List.set_cons_zero, List.set_cons_succ])
              refine wpAnyH_take (i := 1) (v := .int .i64 q2) rfl (by kernel_rfl) (by kernel_rfl) (by kernel_rfl) (fun _ _ _ h => h) (Or.inl ⟨by rfl, ?_⟩) (by assumption) ?_
              · (intro w hSw; (try dsimp only at hSw); go_simp)
              (try simp only [Act.put, List.getElem_toArray, List.getElem_cons_succ, List.getElem_cons_zero, List.setIfInBounds_toArray, List.set_cons_zero, List.set_cons_succ])
              refine wpAnyH_take (i := 2) (v := .pointer (some ⟨w.heap.size, 0, none⟩)) rfl (by kernel_rfl) (by kernel_rfl) (by kernel_rfl) (fun _ _ _ h => h) (Or.inl ⟨by rfl, ?_⟩) (by assumption) ?_
              · (intro w hSw; (try dsimp only at hSw); go_simp)
              (try simp only [Act.put, List.getElem_toArray, List.getElem_cons_succ, List.getElem_cons_zero, List.setIfInBounds_toArray, List.set_cons_zero, List.set_cons_succ])
              refine wpAnyH_take (i := 3) (v := .slice (some ⟨lb, lo, none⟩) len cap) rfl (by kernel_rfl) (by kernel_rfl) (by kernel_rfl) (fun _ _ _ h => h) (Or.inl ⟨by rfl, ?_⟩) (by assumption) ?_
              · (intro w hSw; (try dsimp only at hSw); go_simp)
              (try simp only [Act.put, List.getElem_toArray, List.getElem_cons_succ, List.getElem_cons_zero, List.setIfInBounds_toArray, List.set_cons_zero, List.set_cons_succ])
              refine wpAnyH_take (i := 4) (v := .int .i64 (h : Int)) rfl (by kernel_rfl) (by kernel_rfl) (by kernel_rfl) (fun _ _ _ h => h) (Or.inl ⟨by rfl, ?_⟩) (by assumption) ?_
              · (intro w hSw; (try dsimp only at hSw); go_simp)
              (try simp only [Act.put, List.getElem_toArray, List.getElem_cons_succ, List.getElem_cons_zero, List.setIfInBounds_toArray, List.set_cons_zero, List.set_cons_succ])
              refine wpAnyH_take (i := 5) (v := .pointer (some ⟨lb, lo + h * 7, none⟩)) rfl (by kernel_rfl) (by kernel_rfl) (by kernel_rfl) (fun _ _ _ h => h) (Or.inl ⟨by rfl, ?_⟩) (by assumption) ?_
              · (intro w hSw; (try dsimp only at hSw); go_simp)
              (try simp only [Act.put, List.getElem_toArray, List.getElem_cons_succ, List.getElem_cons_zero, List.setIfInBounds_toArray, List.set_cons_zero, List.set_cons_succ])
              refine wpAnyH_take (i := 6) (v := .pointer (some ⟨lb, lo + h * 7, none⟩)) rfl (by kernel_rfl) (by kernel_rfl) (by kernel_rfl) (fun _ _ _ h => h) (Or.inl ⟨by rfl, ?_⟩) (by assumption) ?_
              · (intro w hSw; (try dsimp only at hSw); go_simp)
              (try simp only [Act.put, List.getElem_toArray, List.getElem_cons_succ, List.getElem_cons_zero, List.setIfInBounds_toArray, List.set_cons_zero, List.set_cons_succ])
              refine wpAnyH_take (i := 7) (v := .int .i64 ID) rfl (by kernel_rfl) (by kernel_rfl) (by kernel_rfl) (fun _ _ _ h => h) (Or.inl ⟨by rfl, ?_⟩) (by assumption) ?_
              · (intro w hSw; (try dsimp only at hSw); go_simp)
              (try simp only [Act.put, List.getElem_toArray, List.getElem_cons_succ, List.getElem_cons_zero, List.setIfInBounds_toArray, List.set_cons_zero, List.set_cons_succ])
              refine wpAnyH_take (i := 8) (v := .bool false) rfl (by kernel_rfl) (by kernel_rfl) (by kernel_rfl) (fun _ _ _ h => h) (Or.inl ⟨by rfl, ?_⟩) (by assumption) ?_
              · (intro w hSw; (try dsimp only at hSw); go_simp)
              (try simp only [Act.put, List.getElem_toArray, List.getElem_cons_succ, List.getElem_cons_zero, List.setIfInBounds_toArray, List.set_cons_zero, List.set_cons_succ])
              refine wpAnyH_take (i := 9) (v := .bool false) rfl (by kernel_rfl) (by kernel_rfl) (by kernel_rfl) (fun _ _ _ h => h) (Or.inl ⟨by rfl, ?_⟩) (by assumption) ?_
              · (intro w hSw; (try dsimp only at hSw); go_simp)
              (try simp only [Act.put, List.getElem_toArray, List.getElem_cons_succ, List.getElem_cons_zero, List.setIfInBounds_toArray, List.set_cons_zero, List.set_cons_succ])
              refine wpAnyH_take (i := 10) (v := .pointer (some ⟨w.heap.size, 2, none⟩)) rfl (by kernel_rfl) (by kernel_rfl) (by kernel_rfl) (fun _ _ _ h => h) (Or.inl ⟨by rfl, ?_⟩) (by assumption) ?_
              · (intro w hSw; (try dsimp only at hSw); go_simp)
              (try simp only [Act.put, List.getElem_toArray, List.getElem_cons_succ, List.getElem_cons_zero, List.setIfInBounds_toArray, List.set_cons_zero, List.set_cons_succ])
              refine wpAnyH_take (i := 11) (v := .map (some mb)) rfl (by kernel_rfl) (by kernel_rfl) (by kernel_rfl) (fun _ _ _ h => h) (Or.inl ⟨by rfl, ?_⟩) (by assumption) ?_
              · (intro w hSw; (try dsimp only at hSw); go_simp)
              (try simp only [Act.put, List.getElem_toArray, List.getElem_cons_succ, List.getElem_cons_zero, List.setIfInBounds_toArray, List.set_cons_zero, List.set_cons_succ])
              refine wpAnyH_take (i := 12) (v := .pointer (some ⟨QK, 0, none⟩)) rfl (by kernel_rfl) (by kernel_rfl) (by kernel_rfl) (fun _ _ _ h => h) (Or.inl ⟨by rfl, ?_⟩) (by assumption) ?_
              · (intro w hSw; (try dsimp only at hSw); go_simp)
              (try simp only [Act.put, List.getElem_toArray, List.getElem_cons_succ, List.getElem_cons_zero, List.setIfInBounds_toArray, List.set_cons_zero, List.set_cons_succ])
              refine wpAnyH_take (i := 13) (v := .int .i64 q1) rfl (by kernel_rfl) (by kernel_rfl) (by kernel_rfl) (fun _ _ _ h => h) (Or.inl ⟨by rfl, ?_⟩) (by assumption) ?_
              · (intro w hSw; (try dsimp only at hSw); go_simp)
              (try simp only [Act.put, List.getElem_toArray, List.getElem_cons_succ, List.getElem_cons_zero, List.setIfInBounds_toArray, List.set_cons_zero, List.set_cons_succ])
              refine wpAnyH_take (i := 14) (v := .int .i64 FX) rfl (by kernel_rfl) (by kernel_rfl) (by kernel_rfl) (fun _ _ _ h => h) (Or.inl ⟨by rfl, ?_⟩) (by assumption) ?_
              · (intro w hSw; have L := hSw.2.2.2.2.2.get QI.out; rw [HFX.out] at L; (try dsimp only at hSw); go_simp)
              (try simp only [Act.put, List.getElem_toArray, List.getElem_cons_succ, List.getElem_cons_zero, List.setIfInBounds_toArray, List.set_cons_zero, List.set_cons_succ])
              refine wpAnyH_take (i := 15) (v := .bool false) rfl (by kernel_rfl) (by kernel_rfl) (by kernel_rfl) (fun _ _ _ h => h) (Or.inl ⟨by rfl, ?_⟩) (by assumption) ?_
              · (intro w hSw; (try dsimp only at hSw); go_simp)
              (try simp only [Act.put, List.getElem_toArray, List.getElem_cons_succ, List.getElem_cons_zero, List.setIfInBounds_toArray, List.set_cons_zero, List.set_cons_succ])
              refine wpAnyH_take (i := 16) (v := .bool false) rfl (by kernel_rfl) (by kernel_rfl) (by kernel_rfl) (fun _ _ _ h => h) (Or.inl ⟨by rfl, ?_⟩) (by assumption) ?_
              · (intro w hSw; (try dsimp only at hSw); go_simp)
              (try simp only [Act.put, List.getElem_toArray, List.getElem_cons_succ, List.getElem_cons_zero, List.setIfInBounds_toArray, List.set_cons_zero, List.set_cons_succ])
              refine wpAnyH_take (i := 17) (v := .bool false) rfl (by kernel_rfl) (by kernel_rfl) (by kernel_rfl) (fun _ _ _ h => h) (Or.inl ⟨by rfl, ?_⟩) (by assumption) ?_
              · (intro w hSw; (try dsimp only at hSw); go_simp)
              (try simp only [Act.put, List.getElem_toArray, List.getElem_cons_succ, List.getElem_cons_zero, List.setIfInBounds_toArray, List.set_cons_zero, List.set_cons_succ])
              refine wpAnyH_done (by kernel_rfl) ?_ _
              go_wp2
              go_roundw
              case rel => exact ⟨k + 1, by omega, by go_num, by rw [EC.out], BD⟩
              case measure => simp [intOf]; omega
            · have tb : ((b : Int) == -1) = false := by simp <;> omega
              have nb : (b : Int) ≠ -1 := by omega
              rw [hbe] at EB ⊢
              rw [if_neg nb, Int.toNat_natCast] at EB
              have HVd := hid (HV.out.below BD.out)
              have HRd := hid (HR.out.below BD.out)
              have e0 := keepc BD.out K0.out
              have e1 := keepc BD.out K1.out
              have e2 := keepc BD.out K2.out
              have e3 := keepc BD.out K3.out
              have e4 := keepc BD.out K4.out
              have BFA := hid (before_any lb lo len cap sb so sc mb l us tc tm k b w6.drew HRd.out HVd.out HL.out hc HS.out HT.out hlt (by omega))
              clear hbe BF nb
              refine wp_region_held_drew (S := (fun w' => w'.cell? ⟨w.heap.size, 0, none⟩ = some (.slice (some ⟨lb, lo, none⟩) len cap) ∧ w'.cell? ⟨w.heap.size, 2, none⟩ = some (.map (some mb)) ∧ w'.cell? ⟨QK, 0, none⟩ = some (.int .i64 q1) ∧ w'.cell? ⟨QK, 1, none⟩ = some (.int .i64 q2) ∧ w'.cell? ⟨lb, lo + h * 7, none⟩ = some (.int .i64 ID) ∧ CntM w' mb n f)) (by kernel_rfl) ⟨drewc x0, drewc x2, drewc y0, drewc y1, drewc z0, MC⟩ (fun hHeld => ?_)
              refine wpAnyH_take (i := 0) (v := .pointer (some ⟨QK, 1, none⟩)) rfl (by kernel_rfl) (by kernel_rfl) (by kernel_rfl) (fun _ _ _ h => h) (Or.inl ⟨by rfl, ?_⟩) (by assumption) ?_
              · (intro w hSw; (try dsimp only at hSw); go_simp)
              (try simp only [Act.put, List.getElem_toArray, List.getElem_cons_succ, List.getElem_cons_zero, List.setIfInBounds_toArray, List.set_cons_zero, List.set_cons_succ])
              refine wpAnyH_take (i := 1) (v := .int .i64 q2) rfl (by kernel_rfl) (by kernel_rfl) (by kernel_rfl) (fun _ _ _ h => h) (Or.inl ⟨by rfl, ?_⟩) (by assumption) ?_
              · (intro w hSw; (try dsimp only at hSw); go_simp)
              (try simp only [Act.put, List.getElem_toArray, List.getElem_cons_succ, List.getElem_cons_zero, List.setIfInBounds_toArray, List.set_cons_zero, List.set_cons_succ])
              refine wpAnyH_take (i := 2) (v := .pointer (some ⟨w.heap.size, 0, none⟩)) rfl (by kernel_rfl) (by kernel_rfl) (by kernel_rfl) (fun _ _ _ h => h) (Or.inl ⟨by rfl, ?_⟩) (by assumption) ?_
              · (intro w hSw; (try dsimp only at hSw); go_simp)
              (try simp only [Act.put, List.getElem_toArray, List.getElem_cons_succ, List.getElem_cons_zero, List.setIfInBounds_toArray, List.set_cons_zero, List.set_cons_succ])
              refine wpAnyH_take (i := 3) (v := .slice (some ⟨lb, lo, none⟩) len cap) rfl (by kernel_rfl) (by kernel_rfl) (by kernel_rfl) (fun _ _ _ h => h) (Or.inl ⟨by rfl, ?_⟩) (by assumption) ?_
              · (intro w hSw; (try dsimp only at hSw); go_simp)
              (try simp only [Act.put, List.getElem_toArray, List.getElem_cons_succ, List.getElem_cons_zero, List.setIfInBounds_toArray, List.set_cons_zero, List.set_cons_succ])
              refine wpAnyH_take (i := 4) (v := .int .i64 (h : Int)) rfl (by kernel_rfl) (by kernel_rfl) (by kernel_rfl) (fun _ _ _ h => h) (Or.inl ⟨by rfl, ?_⟩) (by assumption) ?_
              · (intro w hSw; (try dsimp only at hSw); go_simp)
              (try simp only [Act.put, List.getElem_toArray, List.getElem_cons_succ, List.getElem_cons_zero, List.setIfInBounds_toArray, List.set_cons_zero, List.set_cons_succ])
              refine wpAnyH_take (i := 5) (v := .pointer (some ⟨lb, lo + h * 7, none⟩)) rfl (by kernel_rfl) (by kernel_rfl) (by kernel_rfl) (fun _ _ _ h => h) (Or.inl ⟨by rfl, ?_⟩) (by assumption) ?_
              · (intro w hSw; (try dsimp only at hSw); go_simp)
              (try simp only [Act.put, List.getElem_toArray, List.getElem_cons_succ, List.getElem_cons_zero, List.setIfInBounds_toArray, List.set_cons_zero, List.set_cons_succ])
              refine wpAnyH_take (i := 6) (v := .pointer (some ⟨lb, lo + h * 7, none⟩)) rfl (by kernel_rfl) (by kernel_rfl) (by kernel_rfl) (fun _ _ _ h => h) (Or.inl ⟨by rfl, ?_⟩) (by assumption) ?_
              · (intro w hSw; (try dsimp only at hSw); go_simp)
              (try simp only [Act.put, List.getElem_toArray, List.getElem_cons_succ, List.getElem_cons_zero, List.setIfInBounds_toArray, List.set_cons_zero, List.set_cons_succ])
              refine wpAnyH_take (i := 7) (v := .int .i64 ID) rfl (by kernel_rfl) (by kernel_rfl) (by kernel_rfl) (fun _ _ _ h => h) (Or.inl ⟨by rfl, ?_⟩) (by assumption) ?_
              · (intro w hSw; (try dsimp only at hSw); go_simp)
              (try simp only [Act.put, List.getElem_toArray, List.getElem_cons_succ, List.getElem_cons_zero, List.setIfInBounds_toArray, List.set_cons_zero, List.set_cons_succ])
              refine wpAnyH_take (i := 8) (v := .bool false) rfl (by kernel_rfl) (by kernel_rfl) (by kernel_rfl) (fun _ _ _ h => h) (Or.inl ⟨by rfl, ?_⟩) (by assumption) ?_
              · (intro w hSw; (try dsimp only at hSw); go_simp)
              (try simp only [Act.put, List.getElem_toArray, List.getElem_cons_succ, List.getElem_cons_zero, List.setIfInBounds_toArray, List.set_cons_zero, List.set_cons_succ])
              refine wpAnyH_take (i := 9) (v := .bool false) rfl (by kernel_rfl) (by kernel_rfl) (by kernel_rfl) (fun _ _ _ h => h) (Or.inl ⟨by rfl, ?_⟩) (by assumption) ?_
              · (intro w hSw; (try dsimp only at hSw); go_simp)
              (try simp only [Act.put, List.getElem_toArray, List.getElem_cons_succ, List.getElem_cons_zero, List.setIfInBounds_toArray, List.set_cons_zero, List.set_cons_succ])
              refine wpAnyH_take (i := 10) (v := .pointer (some ⟨w.heap.size, 2, none⟩)) rfl (by kernel_rfl) (by kernel_rfl) (by kernel_rfl) (fun _ _ _ h => h) (Or.inl ⟨by rfl, ?_⟩) (by assumption) ?_
              · (intro w hSw; (try dsimp only at hSw); go_simp)
              (try simp only [Act.put, List.getElem_toArray, List.getElem_cons_succ, List.getElem_cons_zero, List.setIfInBounds_toArray, List.set_cons_zero, List.set_cons_succ])
              refine wpAnyH_take (i := 11) (v := .map (some mb)) rfl (by kernel_rfl) (by kernel_rfl) (by kernel_rfl) (fun _ _ _ h => h) (Or.inl ⟨by rfl, ?_⟩) (by assumption) ?_
              · (intro w hSw; (try dsimp only at hSw); go_simp)
              (try simp only [Act.put, List.getElem_toArray, List.getElem_cons_succ, List.getElem_cons_zero, List.setIfInBounds_toArray, List.set_cons_zero, List.set_cons_succ])
              refine wpAnyH_take (i := 12) (v := .pointer (some ⟨QK, 0, none⟩)) rfl (by kernel_rfl) (by kernel_rfl) (by kernel_rfl) (fun _ _ _ h => h) (Or.inl ⟨by rfl, ?_⟩) (by assumption) ?_
              · (intro w hSw; (try dsimp only at hSw); go_simp)
              (try simp only [Act.put, List.getElem_toArray, List.getElem_cons_succ, List.getElem_cons_zero, List.setIfInBounds_toArray, List.set_cons_zero, List.set_cons_succ])
              refine wpAnyH_take (i := 13) (v := .int .i64 q1) rfl (by kernel_rfl) (by kernel_rfl) (by kernel_rfl) (fun _ _ _ h => h) (Or.inl ⟨by rfl, ?_⟩) (by assumption) ?_
              · (intro w hSw; (try dsimp only at hSw); go_simp)
              (try simp only [Act.put, List.getElem_toArray, List.getElem_cons_succ, List.getElem_cons_zero, List.setIfInBounds_toArray, List.set_cons_zero, List.set_cons_succ])
              refine wpAnyH_take (i := 14) (v := .int .i64 FX) rfl (by kernel_rfl) (by kernel_rfl) (by kernel_rfl) (fun _ _ _ h => h) (Or.inl ⟨by rfl, ?_⟩) (by assumption) ?_
              · (intro w hSw; have L := hSw.2.2.2.2.2.get QI.out; rw [HFX.out] at L; (try dsimp only at hSw); go_simp)
              (try simp only [Act.put, List.getElem_toArray, List.getElem_cons_succ, List.getElem_cons_zero, List.setIfInBounds_toArray, List.set_cons_zero, List.set_cons_succ])
              refine wpAnyH_take (i := 15) (v := .bool false) rfl (by kernel_rfl) (by kernel_rfl) (by kernel_rfl) (fun _ _ _ h => h) (Or.inl ⟨by rfl, ?_⟩) (by assumption) ?_
              · (intro w hSw; (try dsimp only at hSw); go_simp)
              (try simp only [Act.put, List.getElem_toArray, List.getElem_cons_succ, List.getElem_cons_zero, List.setIfInBounds_toArray, List.set_cons_zero, List.set_cons_succ])
              refine wpAnyH_take (i := 16) (v := .bool false) rfl (by kernel_rfl) (by kernel_rfl) (by kernel_rfl) (fun _ _ _ h => h) (Or.inl ⟨by rfl, ?_⟩) (by assumption) ?_
              · (intro w hSw; (try dsimp only at hSw); go_simp)
              (try simp only [Act.put, List.getElem_toArray, List.getElem_cons_succ, List.getElem_cons_zero, List.setIfInBounds_toArray, List.set_cons_zero, List.set_cons_succ])
              refine wpAnyH_take (i := 17) (v := .bool false) rfl (by kernel_rfl) (by kernel_rfl) (by kernel_rfl) (fun _ _ _ h => h) (Or.inl ⟨by rfl, ?_⟩) (by assumption) ?_
              · (intro w hSw; (try dsimp only at hSw); go_simp)
              (try simp only [Act.put, List.getElem_toArray, List.getElem_cons_succ, List.getElem_cons_zero, List.setIfInBounds_toArray, List.set_cons_zero, List.set_cons_succ])
              refine wpAnyH_done (by kernel_rfl) ?_ _
              clear x0 x2 y0 y1 z0 MC hHeld
              by_cases hlt2 : cmpAt l us tc tm k b < 0
              · have tl : decide (cmpAt l us tc tm k b < 0) = true := by simpa using hlt2
                have EC : Hid (bstI l us tc tm f ID (k + 1) = (k : Int)) := by unfold Hid; rw [EB.out, if_pos hlt2]
                clear EB hlt2
                go_wp2_with fail
                refine BFA.out.mono ?_
                rintro e w7 ⟨rfl, b7⟩
                rw [tl]
                have B7 := hid (BD.out.trans (b7.mono BD.out.size))
                go_wp2
                go_roundw
                case rel => exact ⟨k + 1, by omega, by go_num, by rw [EC.out], B7⟩
                case measure => simp [intOf]; omega
              · have tl : decide (cmpAt l us tc tm k b < 0) = false := by simpa using hlt2
                have EC : Hid (bstI l us tc tm f ID (k + 1) = (b : Int)) := by unfold Hid; rw [EB.out, if_neg hlt2]
                clear EB hlt2
                go_wp2_with fail
                refine BFA.out.mono ?_
                rintro e w7 ⟨rfl, b7⟩
                rw [tl]
                have B7 := hid (BD.out.trans (b7.mono BD.out.size))
                go_wp2
                go_roundw
                case rel => exact ⟨k + 1, by omega, by go_num, by rw [EC.out], B7⟩
                case measure => simp [intOf]; omega
        · have tp : (q2 != ID) = true := by simpa using hp
          have EB : Hid (bstI l us tc tm f ID (k + 1) = bstI l us tc tm f ID k) := by unfold Hid; rw [BS.out, if_neg (fun h => hp h.1)]
          clear BS hp
          refine wp_region_held_drew (S := (fun w' => w'.cell? ⟨w.heap.size, 0, none⟩ = some (.slice (some ⟨lb, lo, none⟩) len cap) ∧ w'.cell? ⟨w.heap.size, 2, none⟩ = some (.map (some mb)) ∧ w'.cell? ⟨QK, 0, none⟩ = some (.int .i64 q1) ∧ w'.cell? ⟨QK, 1, none⟩ = some (.int .i64 q2) ∧ w'.cell? ⟨lb, lo + h * 7, none⟩ = some (.int .i64 ID) ∧ CntM w' mb n f)) (by kernel_rfl) ⟨drewc x0, drewc x2, drewc y0, drewc y1, drewc z0, MC⟩ (fun hHeld => ?_)
          refine wpAnyH_take (i := 0) (v := .pointer (some ⟨QK, 1, none⟩)) rfl (by kernel_rfl) (by kernel_rfl) (by kernel_rfl) (fun _ _ _ h => h) (Or.inl ⟨by rfl, ?_⟩) (by assumption) ?_
          · (intro w hSw; (try dsimp only at hSw); go_simp)
          (try simp only [Act.put, List.getElem_toArray, List.getElem_cons_succ, List.getElem_cons_zero, List.setIfInBounds_toArray, List.set_cons_zero, List.set_cons_succ])
          refine wpAnyH_take (i := 1) (v := .int .i64 q2) rfl (by kernel_rfl) (by kernel_rfl) (by kernel_rfl) (fun _ _ _ h => h) (Or.inl ⟨by rfl, ?_⟩) (by assumption) ?_
          · (intro w hSw; (try dsimp only at hSw); go_simp)
          (try simp only [Act.put, List.getElem_toArray, List.getElem_cons_succ, List.getElem_cons_zero, List.setIfInBounds_toArray, List.set_cons_zero, List.set_cons_succ])
          refine wpAnyH_take (i := 2) (v := .pointer (some ⟨w.heap.size, 0, none⟩)) rfl (by kernel_rfl) (by kernel_rfl) (by kernel_rfl) (fun _ _ _ h => h) (Or.inl ⟨by rfl, ?_⟩) (by assumption) ?_
          · (intro w hSw; (try dsimp only at hSw); go_simp)
          (try simp only [Act.put, List.getElem_toArray, List.getElem_cons_succ, List.getElem_cons_zero, List.setIfInBounds_toArray, List.set_cons_zero, List.set_cons_succ])
          refine wpAnyH_take (i := 3) (v := .slice (some ⟨lb, lo, none⟩) len cap) rfl (by kernel_rfl) (by kernel_rfl) (by kernel_rfl) (fun _ _ _ h => h) (Or.inl ⟨by rfl, ?_⟩) (by assumption) ?_
          · (intro w hSw; (try dsimp only at hSw); go_simp)
          (try simp only [Act.put, List.getElem_toArray, List.getElem_cons_succ, List.getElem_cons_zero, List.setIfInBounds_toArray, List.set_cons_zero, List.set_cons_succ])
          refine wpAnyH_take (i := 4) (v := .int .i64 (h : Int)) rfl (by kernel_rfl) (by kernel_rfl) (by kernel_rfl) (fun _ _ _ h => h) (Or.inl ⟨by rfl, ?_⟩) (by assumption) ?_
          · (intro w hSw; (try dsimp only at hSw); go_simp)
          (try simp only [Act.put, List.getElem_toArray, List.getElem_cons_succ, List.getElem_cons_zero, List.setIfInBounds_toArray, List.set_cons_zero, List.set_cons_succ])
          refine wpAnyH_take (i := 5) (v := .pointer (some ⟨lb, lo + h * 7, none⟩)) rfl (by kernel_rfl) (by kernel_rfl) (by kernel_rfl) (fun _ _ _ h => h) (Or.inl ⟨by rfl, ?_⟩) (by assumption) ?_
          · (intro w hSw; (try dsimp only at hSw); go_simp)
          (try simp only [Act.put, List.getElem_toArray, List.getElem_cons_succ, List.getElem_cons_zero, List.setIfInBounds_toArray, List.set_cons_zero, List.set_cons_succ])
          refine wpAnyH_take (i := 6) (v := .pointer (some ⟨lb, lo + h * 7, none⟩)) rfl (by kernel_rfl) (by kernel_rfl) (by kernel_rfl) (fun _ _ _ h => h) (Or.inl ⟨by rfl, ?_⟩) (by assumption) ?_
          · (intro w hSw; (try dsimp only at hSw); go_simp)
          (try simp only [Act.put, List.getElem_toArray, List.getElem_cons_succ, List.getElem_cons_zero, List.setIfInBounds_toArray, List.set_cons_zero, List.set_cons_succ])
          refine wpAnyH_take (i := 7) (v := .int .i64 ID) rfl (by kernel_rfl) (by kernel_rfl) (by kernel_rfl) (fun _ _ _ h => h) (Or.inl ⟨by rfl, ?_⟩) (by assumption) ?_
          · (intro w hSw; (try dsimp only at hSw); go_simp)
          (try simp only [Act.put, List.getElem_toArray, List.getElem_cons_succ, List.getElem_cons_zero, List.setIfInBounds_toArray, List.set_cons_zero, List.set_cons_succ])
          refine wpAnyH_take (i := 8) (v := .bool true) rfl (by kernel_rfl) (by kernel_rfl) (by kernel_rfl) (fun _ _ _ h => h) (Or.inl ⟨by rfl, ?_⟩) (by assumption) ?_
          · (intro w hSw; (try dsimp only at hSw); go_simp)
          (try simp only [Act.put, List.getElem_toArray, List.getElem_cons_succ, List.getElem_cons_zero, List.setIfInBounds_toArray, List.set_cons_zero, List.set_cons_succ])
          refine wpAnyH_take (i := 9) (v := .bool true) rfl (by kernel_rfl) (by kernel_rfl) (by kernel_rfl) (fun _ _ _ h => h) (Or.inl ⟨by rfl, ?_⟩) (by assumption) ?_
          · (intro w hSw; (try dsimp only at hSw); go_simp)
          (try simp only [Act.put, List.getElem_toArray, List.getElem_cons_succ, List.getElem_cons_zero, List.setIfInBounds_toArray, List.set_cons_zero, List.set_cons_succ])
          refine wpAnyH_take (i := 10) (v := undef) rfl (by kernel_rfl) (by kernel_rfl) (by kernel_rfl) (fun _ _ _ h => h) (Or.inr ⟨by rfl, rfl⟩) (by assumption) ?_
          (try simp only [Act.put, List.getElem_toArray, List.getElem_cons_succ, List.getElem_cons_zero, List.setIfInBounds_toArray, List.set_cons_zero, List.set_cons_succ])
          refine wpAnyH_take (i := 11) (v := undef) rfl (by kernel_rfl) (by kernel_rfl) (by kernel_rfl) (fun _ _ _ h => h) (Or.inr ⟨by rfl, rfl⟩) (by assumption) ?_
          (try simp only [Act.put, List.getElem_toArray, List.getElem_cons_succ, List.getElem_cons_zero, List.setIfInBounds_toArray, List.set_cons_zero, List.set_cons_succ])
          refine wpAnyH_take (i := 12) (v := undef) rfl (by kernel_rfl) (by kernel_rfl) (by kernel_rfl) (fun _ _ _ h => h) (Or.inr ⟨by rfl, rfl⟩) (by assumption) ?_
          (try simp only [Act.put, List.getElem_toArray, List.getElem_cons_succ, List.getElem_cons_zero, List.setIfInBounds_toArray, List.set_cons_zero, List.set_cons_succ])
          refine wpAnyH_take (i := 13) (v := undef) rfl (by kernel_rfl) (by kernel_rfl) (by kernel_rfl) (fun _ _ _ h => h) (Or.inr ⟨by rfl, rfl⟩) (by assumption) ?_
          (try simp only [Act.put, List.getElem_toArray, List.getElem_cons_succ, List.getElem_cons_zero, List.setIfInBounds_toArray, List.set_cons_zero, List.set_cons_succ])
          refine wpAnyH_take (i := 14) (v := undef) rfl (by kernel_rfl) (by kernel_rfl) (by kernel_rfl) (fun _ _ _ h => h) (Or.inr ⟨by rfl, rfl⟩) (by assumption) ?_
          (try simp only [Act.put, List.getElem_toArray, List.getElem_cons_succ, List.getElem_cons_zero, List.setIfInBounds_toArray, List.set_cons_zero, List.set_cons_succ])
          refine wpAnyH_take (i := 15) (v := undef) rfl (by kernel_rfl) (by kernel_rfl) (by kernel_rfl) (fun _ _ _ h => h) (Or.inr ⟨by rfl, rfl⟩) (by assumption) ?_
          (try simp only [Act.put, List.getElem_toArray, List.getElem_cons_succ, List.getElem_cons_zero, List.setIfInBounds_toArray, List.set_cons_zero, List.set_cons_succ])
          refine wpAnyH_take (i := 16) (v := .bool true) rfl (by kernel_rfl) (by kernel_rfl) (by kernel_rfl) (fun _ _ _ h => h) (Or.inl ⟨by rfl, ?_⟩) (by assumption) ?_
          · (intro w hSw; (try dsimp only at hSw); go_simp)
          (try simp only [Act.put, List.getElem_toArray, List.getElem_cons_succ, List.getElem_cons_zero, List.setIfInBounds_toArray, List.set_cons_zero, List.set_cons_succ])
          refine wpAnyH_take (i := 17) (v := .bool true) rfl (by kernel_rfl) (by kernel_rfl) (by kernel_rfl) (fun _ _ _ h => h) (Or.inl ⟨by rfl, ?_⟩) (by assumption) ?_
          · (intro w hSw; (try dsimp only at hSw); go_simp)
          (try simp only [Act.put, List.getElem_toArray, List.getElem_cons_succ, List.getElem_cons_zero, List.setIfInBounds_toArray, List.set_cons_zero, List.set_cons_succ])
          refine wpAnyH_done (by kernel_rfl) ?_ _
          go_wp2
          go_roundw
          case rel => exact ⟨k + 1, by omega, by go_num, by rw [EB.out], BD⟩
          case measure => simp [intOf]; omega
      · have hkl : k = l.length := by rw [HL.out]; omega
        rw [hkl]
        rcases bst_form l us tc tm f (qa l h).id l.length with hn | ⟨b, hbk, hbe, hbp, _⟩
        · rw [hn]
          have DS := hid (hD.out.trans (desc_stop hn))
          obtain ⟨d0, _, _, _, _, _, _⟩ := (HR.out.below hB.out).2 h hh'
          have x0 := keepc hB.out K0.out
          have ha : (0 : Int) ≤ (h : Int) := by omega
          have hb : (h : Int) < (len : Int) := by omega
          go_wp2
          rw [Exit.noGoto_exit]
          go_wp2
          try rw [Exit.noGoto_exit]
          try go_wp2
          try rw [Exit.noGoto_ret]
          go_ret
          exact ⟨ret1 (by rw [DS.out]), HB0.out.trans (hB.out.mono HB0.out.size)⟩
        · rw [hbe]
          have DS := desc_step HF.out hh' hbk hbe hbp
          have DD := hid (hD.out.trans DS.2)
          have hhb := DS.1
          have tb : ((b : Int) == -1) = false := by simp <;> omega
          have hbl : b < len := by rw [← HL.out]; exact hbk
          clear DS hbe hbp
          go_wp2
          rw [Exit.noGoto_normal]
          go_wp2
          go_roundw
          case rel => exact ⟨b, hbl, rfl, DD, hB⟩
          case measure => simp [intOf]; omega

end Go.Proofs.Ytglifgnaecbniaa

namespace Go.Proofs.Ytglifgnaecbniaa
open Go.RowKit Go.Deep Go.Maps Go.Shelf
set_option linter.unusedVariables false
set_option linter.unusedSimpArgs false

/-- What the box of the result holds at first. -/
def ZeroB (b : Nat) (w : World) : Prop := (w.cell? ⟨b, 0, none⟩ = some (.slice none 0 0) ∧ w.cell? ⟨b, 1, none⟩ = some (.slice none 0 0) ∧ w.cell? ⟨b, 2, none⟩ = some (.map none) ∧ w.cell? ⟨b, 3, none⟩ = some (.int .i64 0) ∧ w.cell? ⟨b, 4, none⟩ = some (.int .i64 0)) ∧ (w.frozen? ⟨b, 0, none⟩ = false ∧ w.frozen? ⟨b, 1, none⟩ = false ∧ w.frozen? ⟨b, 2, none⟩ = false ∧ w.frozen? ⟨b, 3, none⟩ = false ∧ w.frozen? ⟨b, 4, none⟩ = false)
theorem ZeroB.below {b : Nat} {w w' : World} (h : ZeroB b w) (hb : Below w.heap.size w w') : ZeroB b w' := by
  obtain ⟨⟨c0, c1, c2, c3, c4⟩, f0, f1, f2, f3, f4⟩ := h
  exact ⟨⟨keepc hb c0, keepc hb c1, keepc hb c2, keepc hb c3, keepc hb c4⟩, keepf hb c0 f0, keepf hb c1 f1, keepf hb c2 f2, keepf hb c3 f3, keepf hb c4 f4⟩
theorem ZeroB.but {b m : Nat} {w w' : World} (h : ZeroB b w) (hb : But m w w') (hne : b ≠ m) : ZeroB b w' := by
  obtain ⟨⟨c0, c1, c2, c3, c4⟩, f0, f1, f2, f3, f4⟩ := h
  exact ⟨⟨hb.cell c0 hne, hb.cell c1 hne, hb.cell c2 hne, hb.cell c3 hne, hb.cell c4 hne⟩, hb.frozen c0 hne f0, hb.frozen c1 hne f1, hb.frozen c2 hne f2, hb.frozen c3 hne f3, hb.frozen c4 hne f4⟩
/-- Are all of want there? -/
def allThere (l : List Qu) (ws : List Int) : Bool := ws.all (hasQ l)
/-- The error of what is read. -/
def readE (l : List Qu) (us : List Us) (ws : List Int) (tc tm : Int) : Int :=
  if sumsE l us ≠ 0 then sumsE l us else if okv (tc, tm) = false then 1 else if riseB ws = false then 4 else if ws.length = 0 then 8 else if allThere l ws = false then 8 else if allLeaf l ws = false then 14 else 0
/-- How many wait below each queue. -/
def waitF (l : List Qu) (ws : List Int) : Int → Int := addC (fun _ => 0) 1 (ws.flatMap (upR l))
theorem addC_add (f : Int → Int) (more : Int) (a b : List Int) : addC (addC f more a) more b = addC f more (a ++ b) := by
  funext x
  unfold addC
  rw [List.count_append, Int.natCast_add, Int.mul_add]
  omega
/-- Rising Ids stand at rising places. -/
theorem place_le {l : List Qu} (hF : Form l) {ws : List Int} (hr : riseB ws = true) : ∀ k, k < ws.length → (∀ x ∈ ws.take (k + 1), hasQ l x = true) → k ≤ pl l (na ws k) := by
  intro k
  induction k with
  | zero => intro _ _; omega
  | succ k ih =>
    intro hk hA
    have h1 := ih (by omega) (fun x hx => hA x (by
      rw [List.take_add_one]; exact List.mem_append_left _ hx))
    have h2 := riseB_iff.1 hr k hk
    have ha : hasQ l (na ws k) = true := hA _ (List.mem_of_getElem? (i := k) (by rw [List.getElem?_take, if_pos (by omega)]; exact na_get (by omega)))
    have hb : hasQ l (na ws (k + 1)) = true := hA _ (List.mem_of_getElem? (i := k + 1) (by rw [List.getElem?_take, if_pos (by omega)]; exact na_get hk))
    have pa : pl l (na ws k) < l.length := of_decide_eq_true ha
    have pb : pl l (na ws (k + 1)) < l.length := of_decide_eq_true hb
    have ea := pl_id pa
    have eb := pl_id pb
    rcases Nat.lt_trichotomy (pl l (na ws k)) (pl l (na ws (k + 1))) with h | h | h
    · omega
    · rw [h, eb] at ea; omega
    · have := hF.rise h pa; omega
theorem flat_le {l : List Qu} : ∀ ws : List Int, (ws.flatMap (upR l)).length ≤ 64 * ws.length := by
  intro ws
  induction ws with
  | nil => simp
  | cons x r ih =>
    rw [List.flatMap_cons, List.length_append, List.length_cons]
    have := upR_le l x
    omega
theorem cnt_bound {l : List Qu} (ws : List Int) (h : ws.length ≤ 64) : ∀ x, -1000000 ≤ addC (fun _ => 0) 1 (ws.flatMap (upR l)) x ∧ addC (fun _ => 0) 1 (ws.flatMap (upR l)) x ≤ 1000000 := by
  intro x
  unfold addC
  have h1 := flat_le (l := l) ws
  have h2 : (ws.flatMap (upR l)).count x ≤ (ws.flatMap (upR l)).length := List.count_le_length
  dsimp only
  omega

set_option maxRecDepth 100000 in
set_option maxHeartbeats 8000000 in
theorem dread_sums (a : Option Addr) (len cap : Nat) (l : List Qu) (ub : Option Addr) (n uc : Nat) (us : List Us) (wa : Option Addr) (wn wc : Nat) (ws : List Int) (tc tm : Int) (w : World) (h : HoldsQ w a len cap l) (hok : ∀ q ∈ l, q.ok) (hu : HoldsU w ub n uc us) (hq : ∀ u ∈ us, I64 u.qu) (hw : HoldsN w wa wn wc ws) (hwi : ∀ x ∈ ws, I64 x) (E : Int) (hE : sumsE l us = E) (hE0 : E ≠ 0) :
    Calls Try.prog 34 #[.slice a len cap, .slice ub n uc, .slice wa wn wc, .agg #[.int .i64 tc, .int .i64 tm]] w fun e w' => e = .returned (.tuple #[.agg #[.slice none 0 0, .slice none 0 0, .map none, .int .i64 0, .int .i64 0], .int .i64 E]) ∧ Below w.heap.size w w' := by
  have hB0 : Below w.heap.size w ((w.alloc (.cells #[.int .i64 tc, .int .i64 tm] 26)).alloc (.cells #[.slice none 0 0, .slice none 0 0, .map none, .int .i64 0, .int .i64 0] 65)) := ((Below.refl _ w).alloc (Nat.le_refl _) _).alloc (by simp) _
  have SM := hid (qsums_any a len cap l ub n uc us ((w.alloc (.cells #[.int .i64 tc, .int .i64 tm] 26)).alloc (.cells #[.slice none 0 0, .slice none 0 0, .map none, .int .i64 0, .int .i64 0] 65)) (h.below hB0) hok (hu.below hB0) hq)
  have HH := hid (h.below hB0)
  have HO := hid hok
  have HW := hid (hw.below hB0)
  have HWI := hid hwi
  have HL := hid h.1
  have WL := hid hw.1
  have wcap := hw.2.1
  have wcm := hw.2.2.1
  have HB0 := hid hB0
  have k0 : ((w.alloc (.cells #[.int .i64 tc, .int .i64 tm] 26)).alloc (.cells #[.slice none 0 0, .slice none 0 0, .map none, .int .i64 0, .int .i64 0] 65)).cell? ⟨w.heap.size, 0, none⟩ = some (.int .i64 tc) := by simp [go_sem]
  have k1 : ((w.alloc (.cells #[.int .i64 tc, .int .i64 tm] 26)).alloc (.cells #[.slice none 0 0, .slice none 0 0, .map none, .int .i64 0, .int .i64 0] 65)).cell? ⟨w.heap.size, 1, none⟩ = some (.int .i64 tm) := by simp [go_sem]
  have zb : ZeroB (w.heap.size + 1) ((w.alloc (.cells #[.int .i64 tc, .int .i64 tm] 26)).alloc (.cells #[.slice none 0 0, .slice none 0 0, .map none, .int .i64 0, .int .i64 0] 65)) := by unfold ZeroB; simp [go_sem]
  have K0 := hid k0
  have K1 := hid k1
  have ZB := hid zb
  clear h hok hu hq hw hwi hB0 k0 k1 zb
  have t : (E != 0) = true := by simpa using hE0
  have HE := hid hE
  have ER : Hid (sumsR l us = []) := by unfold Hid sumsR; rw [if_neg (by rw [hE]; exact hE0)]
  clear hE hE0
  go_enter Try.func34, Try.ntmps34
  go_wp2_with fail
  refine SM.out.mono ?_
  rintro e w1 ⟨v1, rfl, o1, b1⟩
  obtain ⟨a1, c1, rfl, h1⟩ := o1.holds
  rw [HE.out]
  rw [ER.out]
  have BW := hid (HB0.out.trans (b1.mono HB0.out.size))
  obtain ⟨⟨z0, z1, z2, z3, z4⟩, f0, f1, f2, f3, f4⟩ := ZB.out.below b1
  clear b1 o1 h1 SM
  go_wp2
  refine bodyPost_ret (v := .tuple #[.agg #[.slice none 0 0, .slice none 0 0, .map none, .int .i64 0, .int .i64 0], .int .i64 E]) (by simp [results, Try.results34, go_sem, z0, z1, z2, z3, z4]) rfl ⟨rfl, ?_⟩
  exact (((((BW.out).setCell (p := ⟨w.heap.size + 1, 0, none⟩) (by simp) _).setCell (p := ⟨w.heap.size + 1, 1, none⟩) (by simp) _).setCell (p := ⟨w.heap.size + 1, 2, none⟩) (by simp) _).setCell (p := ⟨w.heap.size + 1, 3, none⟩) (by simp) _).setCell (p := ⟨w.heap.size + 1, 4, none⟩) (by simp) _

set_option maxRecDepth 100000 in
set_option maxHeartbeats 8000000 in
theorem dread_arg (a : Option Addr) (len cap : Nat) (l : List Qu) (ub : Option Addr) (n uc : Nat) (us : List Us) (wa : Option Addr) (wn wc : Nat) (ws : List Int) (tc tm : Int) (w : World) (h : HoldsQ w a len cap l) (hok : ∀ q ∈ l, q.ok) (hu : HoldsU w ub n uc us) (hq : ∀ u ∈ us, I64 u.qu) (hw : HoldsN w wa wn wc ws) (hwi : ∀ x ∈ ws, I64 x) (hS : sumsE l us = 0) (ht : okv (tc, tm) = false) :
    Calls Try.prog 34 #[.slice a len cap, .slice ub n uc, .slice wa wn wc, .agg #[.int .i64 tc, .int .i64 tm]] w fun e w' => e = .returned (.tuple #[.agg #[.slice none 0 0, .slice none 0 0, .map none, .int .i64 0, .int .i64 0], .int .i64 1]) ∧ Below w.heap.size w w' := by
  have hB0 : Below w.heap.size w ((w.alloc (.cells #[.int .i64 tc, .int .i64 tm] 26)).alloc (.cells #[.slice none 0 0, .slice none 0 0, .map none, .int .i64 0, .int .i64 0] 65)) := ((Below.refl _ w).alloc (Nat.le_refl _) _).alloc (by simp) _
  have SM := hid (qsums_any a len cap l ub n uc us ((w.alloc (.cells #[.int .i64 tc, .int .i64 tm] 26)).alloc (.cells #[.slice none 0 0, .slice none 0 0, .map none, .int .i64 0, .int .i64 0] 65)) (h.below hB0) hok (hu.below hB0) hq)
  have HH := hid (h.below hB0)
  have HO := hid hok
  have HW := hid (hw.below hB0)
  have HWI := hid hwi
  have HL := hid h.1
  have WL := hid hw.1
  have wcap := hw.2.1
  have wcm := hw.2.2.1
  have HB0 := hid hB0
  have k0 : ((w.alloc (.cells #[.int .i64 tc, .int .i64 tm] 26)).alloc (.cells #[.slice none 0 0, .slice none 0 0, .map none, .int .i64 0, .int .i64 0] 65)).cell? ⟨w.heap.size, 0, none⟩ = some (.int .i64 tc) := by simp [go_sem]
  have k1 : ((w.alloc (.cells #[.int .i64 tc, .int .i64 tm] 26)).alloc (.cells #[.slice none 0 0, .slice none 0 0, .map none, .int .i64 0, .int .i64 0] 65)).cell? ⟨w.heap.size, 1, none⟩ = some (.int .i64 tm) := by simp [go_sem]
  have zb : ZeroB (w.heap.size + 1) ((w.alloc (.cells #[.int .i64 tc, .int .i64 tm] 26)).alloc (.cells #[.slice none 0 0, .slice none 0 0, .map none, .int .i64 0, .int .i64 0] 65)) := by unfold ZeroB; simp [go_sem]
  have K0 := hid k0
  have K1 := hid k1
  have ZB := hid zb
  clear h hok hu hq hw hwi hB0 k0 k1 zb
  have ER : Hid (sumsR l us = vecsTo l us l.length) := by unfold Hid sumsR; rw [if_pos hS]
  have SE := hid hS
  have tk := chk_f ht
  clear hS ht
  go_enter Try.func34, Try.ntmps34
  go_wp2_with fail
  refine SM.out.mono ?_
  rintro e w1 ⟨v1, rfl, o1, b1⟩
  obtain ⟨a1, c1, rfl, h1⟩ := o1.holds
  rw [ER.out, vecsTo_len, HL.out] at h1
  have LN : (sumsR l us).length = len := by rw [ER.out, vecsTo_len, HL.out]
  rw [SE.out, LN]
  clear LN
  have B1 := hid b1
  have k0 := keepc b1 K0.out
  have k1 := keepc b1 K1.out
  clear b1 o1 SM
  go_wp2_with fail
  refine (check_any tc tm w1).mono ?_
  rintro e w2 ⟨rfl, b2⟩
  have B2 := hid (B1.out.trans (b2.mono B1.out.size))
  have BW := hid (HB0.out.trans (B2.out.mono HB0.out.size))
  obtain ⟨⟨z0, z1, z2, z3, z4⟩, f0, f1, f2, f3, f4⟩ := ZB.out.below B2.out
  clear b2 k0 k1 h1
  go_wp2
  refine bodyPost_ret (v := .tuple #[.agg #[.slice none 0 0, .slice none 0 0, .map none, .int .i64 0, .int .i64 0], .int .i64 1]) (by simp [results, Try.results34, go_sem, z0, z1, z2, z3, z4]) rfl ⟨rfl, ?_⟩
  exact (((((BW.out).setCell (p := ⟨w.heap.size + 1, 0, none⟩) (by simp) _).setCell (p := ⟨w.heap.size + 1, 1, none⟩) (by simp) _).setCell (p := ⟨w.heap.size + 1, 2, none⟩) (by simp) _).setCell (p := ⟨w.heap.size + 1, 3, none⟩) (by simp) _).setCell (p := ⟨w.heap.size + 1, 4, none⟩) (by simp) _

set_option maxRecDepth 100000 in
set_option maxHeartbeats 8000000 in
theorem dread_form (a : Option Addr) (len cap : Nat) (l : List Qu) (ub : Option Addr) (n uc : Nat) (us : List Us) (wa : Option Addr) (wn wc : Nat) (ws : List Int) (tc tm : Int) (w : World) (h : HoldsQ w a len cap l) (hok : ∀ q ∈ l, q.ok) (hu : HoldsU w ub n uc us) (hq : ∀ u ∈ us, I64 u.qu) (hw : HoldsN w wa wn wc ws) (hwi : ∀ x ∈ ws, I64 x) (hS : sumsE l us = 0) (ht : okv (tc, tm) = true) (hr : riseB ws = false) :
    Calls Try.prog 34 #[.slice a len cap, .slice ub n uc, .slice wa wn wc, .agg #[.int .i64 tc, .int .i64 tm]] w fun e w' => e = .returned (.tuple #[.agg #[.slice none 0 0, .slice none 0 0, .map none, .int .i64 0, .int .i64 0], .int .i64 4]) ∧ Below w.heap.size w w' := by
  have hB0 : Below w.heap.size w ((w.alloc (.cells #[.int .i64 tc, .int .i64 tm] 26)).alloc (.cells #[.slice none 0 0, .slice none 0 0, .map none, .int .i64 0, .int .i64 0] 65)) := ((Below.refl _ w).alloc (Nat.le_refl _) _).alloc (by simp) _
  have SM := hid (qsums_any a len cap l ub n uc us ((w.alloc (.cells #[.int .i64 tc, .int .i64 tm] 26)).alloc (.cells #[.slice none 0 0, .slice none 0 0, .map none, .int .i64 0, .int .i64 0] 65)) (h.below hB0) hok (hu.below hB0) hq)
  have HH := hid (h.below hB0)
  have HO := hid hok
  have HW := hid (hw.below hB0)
  have HWI := hid hwi
  have HL := hid h.1
  have WL := hid hw.1
  have wcap := hw.2.1
  have wcm := hw.2.2.1
  have HB0 := hid hB0
  have k0 : ((w.alloc (.cells #[.int .i64 tc, .int .i64 tm] 26)).alloc (.cells #[.slice none 0 0, .slice none 0 0, .map none, .int .i64 0, .int .i64 0] 65)).cell? ⟨w.heap.size, 0, none⟩ = some (.int .i64 tc) := by simp [go_sem]
  have k1 : ((w.alloc (.cells #[.int .i64 tc, .int .i64 tm] 26)).alloc (.cells #[.slice none 0 0, .slice none 0 0, .map none, .int .i64 0, .int .i64 0] 65)).cell? ⟨w.heap.size, 1, none⟩ = some (.int .i64 tm) := by simp [go_sem]
  have zb : ZeroB (w.heap.size + 1) ((w.alloc (.cells #[.int .i64 tc, .int .i64 tm] 26)).alloc (.cells #[.slice none 0 0, .slice none 0 0, .map none, .int .i64 0, .int .i64 0] 65)) := by unfold ZeroB; simp [go_sem]
  have K0 := hid k0
  have K1 := hid k1
  have ZB := hid zb
  clear h hok hu hq hw hwi hB0 k0 k1 zb
  have ER : Hid (sumsR l us = vecsTo l us l.length) := by unfold Hid sumsR; rw [if_pos hS]
  have SE := hid hS
  have tk := chk_t ht
  have RB := hid hr
  clear hS ht hr
  go_enter Try.func34, Try.ntmps34
  go_wp2_with fail
  refine SM.out.mono ?_
  rintro e w1 ⟨v1, rfl, o1, b1⟩
  obtain ⟨a1, c1, rfl, h1⟩ := o1.holds
  rw [ER.out, vecsTo_len, HL.out] at h1
  have LN : (sumsR l us).length = len := by rw [ER.out, vecsTo_len, HL.out]
  rw [SE.out, LN]
  clear LN
  have B1 := hid b1
  have k0 := keepc b1 K0.out
  have k1 := keepc b1 K1.out
  clear b1 o1 SM
  go_wp2_with fail
  refine (check_any tc tm w1).mono ?_
  rintro e w2 ⟨rfl, b2⟩
  have B2 := hid (B1.out.trans (b2.mono B1.out.size))
  have k0 := keepc b2 k0
  have k1 := keepc b2 k1
  have V2 := hid (h1.below b2)
  clear b2 h1
  go_wp2_with fail
  refine (rises_any wa wn wc ws w2 (HW.out.below B2.out)).mono ?_
  rintro e w3 ⟨rfl, b3⟩
  rw [RB.out]
  have B3 := hid (B2.out.trans (b3.mono B2.out.size))
  have BW := hid (HB0.out.trans (B3.out.mono HB0.out.size))
  obtain ⟨⟨z0, z1, z2, z3, z4⟩, f0, f1, f2, f3, f4⟩ := ZB.out.below B3.out
  clear b3 k0 k1
  go_wp2
  refine bodyPost_ret (v := .tuple #[.agg #[.slice none 0 0, .slice none 0 0, .map none, .int .i64 0, .int .i64 0], .int .i64 4]) (by simp [results, Try.results34, go_sem, z0, z1, z2, z3, z4]) rfl ⟨rfl, ?_⟩
  exact (((((BW.out).setCell (p := ⟨w.heap.size + 1, 0, none⟩) (by simp) _).setCell (p := ⟨w.heap.size + 1, 1, none⟩) (by simp) _).setCell (p := ⟨w.heap.size + 1, 2, none⟩) (by simp) _).setCell (p := ⟨w.heap.size + 1, 3, none⟩) (by simp) _).setCell (p := ⟨w.heap.size + 1, 4, none⟩) (by simp) _

set_option maxRecDepth 100000 in
set_option maxHeartbeats 8000000 in
theorem dread_none (a : Option Addr) (len cap : Nat) (l : List Qu) (ub : Option Addr) (n uc : Nat) (us : List Us) (wa : Option Addr) (wn wc : Nat) (ws : List Int) (tc tm : Int) (w : World) (h : HoldsQ w a len cap l) (hok : ∀ q ∈ l, q.ok) (hu : HoldsU w ub n uc us) (hq : ∀ u ∈ us, I64 u.qu) (hw : HoldsN w wa wn wc ws) (hwi : ∀ x ∈ ws, I64 x) (hS : sumsE l us = 0) (ht : okv (tc, tm) = true) (hr : riseB ws = true) (h0 : ws.length = 0) :
    Calls Try.prog 34 #[.slice a len cap, .slice ub n uc, .slice wa wn wc, .agg #[.int .i64 tc, .int .i64 tm]] w fun e w' => e = .returned (.tuple #[.agg #[.slice none 0 0, .slice none 0 0, .map none, .int .i64 0, .int .i64 0], .int .i64 8]) ∧ Below w.heap.size w w' := by
  have hB0 : Below w.heap.size w ((w.alloc (.cells #[.int .i64 tc, .int .i64 tm] 26)).alloc (.cells #[.slice none 0 0, .slice none 0 0, .map none, .int .i64 0, .int .i64 0] 65)) := ((Below.refl _ w).alloc (Nat.le_refl _) _).alloc (by simp) _
  have SM := hid (qsums_any a len cap l ub n uc us ((w.alloc (.cells #[.int .i64 tc, .int .i64 tm] 26)).alloc (.cells #[.slice none 0 0, .slice none 0 0, .map none, .int .i64 0, .int .i64 0] 65)) (h.below hB0) hok (hu.below hB0) hq)
  have HH := hid (h.below hB0)
  have HO := hid hok
  have HW := hid (hw.below hB0)
  have HWI := hid hwi
  have HL := hid h.1
  have WL := hid hw.1
  have wcap := hw.2.1
  have wcm := hw.2.2.1
  have HB0 := hid hB0
  have k0 : ((w.alloc (.cells #[.int .i64 tc, .int .i64 tm] 26)).alloc (.cells #[.slice none 0 0, .slice none 0 0, .map none, .int .i64 0, .int .i64 0] 65)).cell? ⟨w.heap.size, 0, none⟩ = some (.int .i64 tc) := by simp [go_sem]
  have k1 : ((w.alloc (.cells #[.int .i64 tc, .int .i64 tm] 26)).alloc (.cells #[.slice none 0 0, .slice none 0 0, .map none, .int .i64 0, .int .i64 0] 65)).cell? ⟨w.heap.size, 1, none⟩ = some (.int .i64 tm) := by simp [go_sem]
  have zb : ZeroB (w.heap.size + 1) ((w.alloc (.cells #[.int .i64 tc, .int .i64 tm] 26)).alloc (.cells #[.slice none 0 0, .slice none 0 0, .map none, .int .i64 0, .int .i64 0] 65)) := by unfold ZeroB; simp [go_sem]
  have K0 := hid k0
  have K1 := hid k1
  have ZB := hid zb
  clear h hok hu hq hw hwi hB0 k0 k1 zb
  have ER : Hid (sumsR l us = vecsTo l us l.length) := by unfold Hid sumsR; rw [if_pos hS]
  have SE := hid hS
  have tk := chk_t ht
  have RB := hid hr
  have hn0 : wn = 0 := by rw [← WL.out]; exact h0
  have t0 : ((wn : Int) == 0) = true := by rw [hn0]; rfl
  clear hn0
  clear hS ht hr h0
  go_enter Try.func34, Try.ntmps34
  go_wp2_with fail
  refine SM.out.mono ?_
  rintro e w1 ⟨v1, rfl, o1, b1⟩
  obtain ⟨a1, c1, rfl, h1⟩ := o1.holds
  rw [ER.out, vecsTo_len, HL.out] at h1
  have LN : (sumsR l us).length = len := by rw [ER.out, vecsTo_len, HL.out]
  rw [SE.out, LN]
  clear LN
  have B1 := hid b1
  have k0 := keepc b1 K0.out
  have k1 := keepc b1 K1.out
  clear b1 o1 SM
  go_wp2_with fail
  refine (check_any tc tm w1).mono ?_
  rintro e w2 ⟨rfl, b2⟩
  have B2 := hid (B1.out.trans (b2.mono B1.out.size))
  have k0 := keepc b2 k0
  have k1 := keepc b2 k1
  have V2 := hid (h1.below b2)
  clear b2 h1
  go_wp2_with fail
  refine (rises_any wa wn wc ws w2 (HW.out.below B2.out)).mono ?_
  rintro e w3 ⟨rfl, b3⟩
  rw [RB.out]
  have B3 := hid (B2.out.trans (b3.mono B2.out.size))
  have BW := hid (HB0.out.trans (B3.out.mono HB0.out.size))
  obtain ⟨⟨z0, z1, z2, z3, z4⟩, f0, f1, f2, f3, f4⟩ := ZB.out.below B3.out
  clear b3 k0 k1
  go_wp2
  refine bodyPost_ret (v := .tuple #[.agg #[.slice none 0 0, .slice none 0 0, .map none, .int .i64 0, .int .i64 0], .int .i64 8]) (by simp [results, Try.results34, go_sem, z0, z1, z2, z3, z4]) rfl ⟨rfl, ?_⟩
  exact (((((BW.out).setCell (p := ⟨w.heap.size + 1, 0, none⟩) (by simp) _).setCell (p := ⟨w.heap.size + 1, 1, none⟩) (by simp) _).setCell (p := ⟨w.heap.size + 1, 2, none⟩) (by simp) _).setCell (p := ⟨w.heap.size + 1, 3, none⟩) (by simp) _).setCell (p := ⟨w.heap.size + 1, 4, none⟩) (by simp) _


end Go.Proofs.Ytglifgnaecbniaa

namespace Go.Proofs.Ytglifgnaecbniaa
open Go.RowKit Go.Deep Go.Maps Go.Shelf
set_option linter.unusedVariables false
set_option linter.unusedSimpArgs false

theorem HoldsE.blk {α : Type} {k : Nat} {enc : α → List Value} {w : World} {a : Option Addr} {len cap x o : Nat} {l : List α} (h : HoldsE k enc w a len cap l) (e : a = some ⟨x, o, none⟩) (hp : 0 < len) : x < w.heap.size := by
  obtain ⟨b, off, e2, hlt, _⟩ := h.2.2.2.2 hp
  rw [e] at e2
  cases e2
  exact hlt
theorem But.set {b o : Nat} {v : Value} {A w : World} (h : But b A w) : But b A (w.setCell ⟨b, o, none⟩ v) :=
  h.trans ⟨(Below.refl b w).setCell (p := ⟨b, o, none⟩) (Nat.le_refl _) v, fun k hk hx => Below.heap_setCell _ _ _ _ (by simpa using hx)⟩
theorem cntM_made (w : World) : CntM (w.alloc (.map #[] 0)) w.heap.size 0 (fun _ => 0) := ⟨_, World.ownsMap_made _ _ _ _, fun id => by rfl⟩

set_option maxRecDepth 100000 in
set_option maxHeartbeats 2000000 in
theorem dread_loop (a : Option Addr) (len cap : Nat) (l : List Qu) (ub : Option Addr) (n uc : Nat) (us : List Us) (wa : Option Addr) (wn wc : Nat) (ws : List Int) (tc tm : Int) (w : World) (h : HoldsQ w a len cap l) (hok : ∀ q ∈ l, q.ok) (hu : HoldsU w ub n uc us) (hq : ∀ u ∈ us, I64 u.qu) (hw : HoldsN w wa wn wc ws) (hwi : ∀ x ∈ ws, I64 x) (hS : sumsE l us = 0) (ht : okv (tc, tm) = true) (hr : riseB ws = true) (h0 : ws.length ≠ 0) :
    Calls Try.prog 34 #[.slice a len cap, .slice ub n uc, .slice wa wn wc, .agg #[.int .i64 tc, .int .i64 tm]] w fun e w' => ((allThere l ws = false ∧ e = .returned (.tuple #[.agg #[.slice none 0 0, .slice none 0 0, .map none, .int .i64 0, .int .i64 0], .int .i64 8])) ∨ (allThere l ws = true ∧ allLeaf l ws = false ∧ e = .returned (.tuple #[.agg #[.slice none 0 0, .slice none 0 0, .map none, .int .i64 0, .int .i64 0], .int .i64 14])) ∨ (allThere l ws = true ∧ allLeaf l ws = true ∧ ∃ sa sc mb m, e = .returned (.tuple #[tuv a len cap sa len sc mb tc tm, .int .i64 0]) ∧ HoldsV w' sa len sc (vecsTo l us len) ∧ CntM w' mb m (waitF l ws) ∧ m ≤ 64 * ws.length ∧ ws.length ≤ 64 ∧ w.heap.size ≤ mb ∧ ∀ x o, sa = some ⟨x, o, none⟩ → x ≠ mb)) ∧ Below w.heap.size w w' := by
  have hB0 : Below w.heap.size w ((w.alloc (.cells #[.int .i64 tc, .int .i64 tm] 26)).alloc (.cells #[.slice none 0 0, .slice none 0 0, .map none, .int .i64 0, .int .i64 0] 65)) := ((Below.refl _ w).alloc (Nat.le_refl _) _).alloc (by simp) _
  have SM := hid (qsums_any a len cap l ub n uc us ((w.alloc (.cells #[.int .i64 tc, .int .i64 tm] 26)).alloc (.cells #[.slice none 0 0, .slice none 0 0, .map none, .int .i64 0, .int .i64 0] 65)) (h.below hB0) hok (hu.below hB0) hq)
  have HH := hid (h.below hB0)
  have HO := hid hok
  have HW := hid (hw.below hB0)
  have HWI := hid hwi
  have HL := hid h.1
  have WL := hid hw.1
  have wcap := hw.2.1
  have wcm := hw.2.2.1
  have HB0 := hid hB0
  have k0 : ((w.alloc (.cells #[.int .i64 tc, .int .i64 tm] 26)).alloc (.cells #[.slice none 0 0, .slice none 0 0, .map none, .int .i64 0, .int .i64 0] 65)).cell? ⟨w.heap.size, 0, none⟩ = some (.int .i64 tc) := by simp [go_sem]
  have k1 : ((w.alloc (.cells #[.int .i64 tc, .int .i64 tm] 26)).alloc (.cells #[.slice none 0 0, .slice none 0 0, .map none, .int .i64 0, .int .i64 0] 65)).cell? ⟨w.heap.size, 1, none⟩ = some (.int .i64 tm) := by simp [go_sem]
  have zb : ZeroB (w.heap.size + 1) ((w.alloc (.cells #[.int .i64 tc, .int .i64 tm] 26)).alloc (.cells #[.slice none 0 0, .slice none 0 0, .map none, .int .i64 0, .int .i64 0] 65)) := by unfold ZeroB; simp [go_sem]
  have K0 := hid k0
  have K1 := hid k1
  have ZB := hid zb
  clear h hok hu hq hw hwi hB0 k0 k1 zb
  have ER : Hid (sumsR l us = vecsTo l us l.length) := by unfold Hid sumsR; rw [if_pos hS]
  have SE := hid hS
  have tk := chk_t ht
  have RB := hid hr
  have hn0 : wn ≠ 0 := by rw [← WL.out]; exact h0
  have t0 : ((wn : Int) == 0) = false := by simpa using hn0
  have hG := chkE_ok.1 (sumsE_zero hS).1
  have HC := hid (sumsE_zero hS).1
  have HF := hid hG.2.1
  have hle : len ≤ 64 := by rw [← HL.out]; exact hG.1
  have hpos : 0 < len := by rw [← HL.out]; exact hG.2.1.1
  have hmm := @run_makeMap Try.prog
  clear hS ht hr h0 hG
  go_enter Try.func34, Try.ntmps34
  go_wp2_with fail
  refine SM.out.mono ?_
  rintro e w1 ⟨v1, rfl, o1, b1⟩
  obtain ⟨a1, c1, rfl, h1⟩ := o1.holds
  have NB : Hid (∀ x o, a1 = some ⟨x, o, none⟩ → 0 < len → x ≠ w.heap.size + 1) := fun x o e hp => by
    rcases o1 with ⟨hm, _⟩ | ⟨g, c, hv, hg, _⟩
    · rw [ER.out] at hm
      have := congrArg List.length hm
      rw [vecsTo_len, HL.out] at this
      simp at this
      omega
    · subst e
      simp at hv
      simp only [World.size_alloc] at hg
      omega
  rw [ER.out, vecsTo_len, HL.out] at h1
  have LN : (sumsR l us).length = len := by rw [ER.out, vecsTo_len, HL.out]
  rw [SE.out, LN]
  clear LN
  have B1 := hid b1
  have k0 := keepc b1 K0.out
  have k1 := keepc b1 K1.out
  clear b1 o1 SM
  go_wp2_with fail
  refine (check_any tc tm w1).mono ?_
  rintro e w2 ⟨rfl, b2⟩
  have B2 := hid (B1.out.trans (b2.mono B1.out.size))
  have k0 := keepc b2 k0
  have k1 := keepc b2 k1
  have V2 := hid (h1.below b2)
  clear b2 h1
  go_wp2_with fail
  refine (rises_any wa wn wc ws w2 (HW.out.below B2.out)).mono ?_
  rintro e w3 ⟨rfl, b3⟩
  rw [RB.out]
  have B3 := hid (B2.out.trans (b3.mono B2.out.size))
  have k0 := keepc b3 k0
  have k1 := keepc b3 k1
  have V3 := hid (V2.out.below b3)
  clear b3 V2 B1 B2
  have k0m := keepc ((Below.refl _ w3).alloc (Nat.le_refl _) (.map #[] 0)) k0
  have k1m := keepc ((Below.refl _ w3).alloc (Nat.le_refl _) (.map #[] 0)) k1
  go_wp2_with fail
  clear k0 k1 k0m k1m
  have h34 : Below w3.heap.size w3 ((w3.alloc (.map #[] 0)).alloc (tub a len cap a1 len c1 w3.heap.size tc tm)) := ((Below.refl _ w3).alloc (Nat.le_refl _) _).alloc (by simp) _
  have B4 := hid (B3.out.trans (h34.mono B3.out.size))
  have M4 : Hid (CntM ((w3.alloc (.map #[] 0)).alloc (tub a len cap a1 len c1 w3.heap.size tc tm)) w3.heap.size 0 (fun _ => 0)) := (cntM_made w3).below ((Below.refl _ _).alloc (Nat.le_refl _) _)
  have V4 := hid (V3.out.below h34)
  have HH3 := HH.out.below B3.out
  have HW3 := HW.out.below B3.out
  have NA : Hid (∀ x o, a = some ⟨x, o, none⟩ → 0 < len → x ≠ w3.heap.size) := fun x o e hp => Nat.ne_of_lt (HH3.blk e hp)
  have NW : Hid (∀ x o, wa = some ⟨x, o, none⟩ → 0 < wn → x ≠ w3.heap.size) := fun x o e hp => Nat.ne_of_lt (HW3.blk e hp)
  have NS : Hid (∀ x o, a1 = some ⟨x, o, none⟩ → 0 < len → x ≠ w3.heap.size) := fun x o e hp => Nat.ne_of_lt (V3.out.blk e hp)
  have HH4 := hid (HH3.below h34)
  have HW4 := hid (HW3.below h34)
  have Z4 := hid (ZB.out.below B4.out)
  have q0 : ((w3.alloc (.map #[] 0)).alloc (tub a len cap a1 len c1 w3.heap.size tc tm)).cell? ⟨w3.heap.size + 1, 0, none⟩ = some (.slice a len cap) := by simp [go_sem]
  have q1 : ((w3.alloc (.map #[] 0)).alloc (tub a len cap a1 len c1 w3.heap.size tc tm)).cell? ⟨w3.heap.size + 1, 1, none⟩ = some (.slice a1 len c1) := by simp [go_sem]
  have q2 : ((w3.alloc (.map #[] 0)).alloc (tub a len cap a1 len c1 w3.heap.size tc tm)).cell? ⟨w3.heap.size + 1, 2, none⟩ = some (.map (some w3.heap.size)) := by simp [go_sem]
  have q3 : ((w3.alloc (.map #[] 0)).alloc (tub a len cap a1 len c1 w3.heap.size tc tm)).cell? ⟨w3.heap.size + 1, 3, none⟩ = some (.int .i64 tc) := by simp [go_sem]
  have q4 : ((w3.alloc (.map #[] 0)).alloc (tub a len cap a1 len c1 w3.heap.size tc tm)).cell? ⟨w3.heap.size + 1, 4, none⟩ = some (.int .i64 tm) := by simp [go_sem]
  have Q0 := hid q0
  have Q1 := hid q1
  have Q2 := hid q2
  have Q3 := hid q3
  have Q4 := hid q4
  have hsB := B3.out.size
  simp only [World.size_alloc] at hsB
  have hs4 : ((w3.alloc (.map #[] 0)).alloc (tub a len cap a1 len c1 w3.heap.size tc tm)).heap.size = w3.heap.size + 2 := by simp
  clear q0 q1 q2 q3 q4 HH3 HW3 V3 B3 HH HW ZB h34
  generalize ((w3.alloc (.map #[] 0)).alloc (tub a len cap a1 len c1 w3.heap.size tc tm)) = w4 at *
  generalize w3.heap.size = MB at *
  go_loopw [49] (fun i wr => ∃ k : Nat, k ≤ wn ∧ i = .int .i64 (k : Int) ∧ Hid (∀ x ∈ ws.take k, hasQ l x = true) ∧ Hid (CntM wr MB ((ws.take k).flatMap (upR l)).length (addC (fun _ => 0) 1 ((ws.take k).flatMap (upR l)))) ∧ Hid (But MB w4 wr)) (fun i _ => wn - (intOf i).toNat)
  case atStart => exact ⟨0, by omega, rfl, fun x hx => by simp at hx, by unfold Hid; rw [List.take_zero]; simp only [List.flatMap_nil, List.length_nil]; rw [addC_nil]; exact M4.out, But.refl _ _⟩
  case round =>
    obtain ⟨k, hk, rfl, hA, hM, hB⟩ := hrel
    have k64 : k ≤ 64 := by
      rcases Nat.eq_zero_or_pos k with h | h
      · omega
      · have hk1 : k - 1 < ws.length := by rw [WL.out]; omega
        have h1 := place_le HF.out RB.out (k - 1) hk1 (by rw [show k - 1 + 1 = k by omega]; exact hA.out)
        have h2 : hasQ l (na ws (k - 1)) = true := hA.out _ (List.mem_of_getElem? (i := k - 1) (by rw [List.getElem?_take, if_pos (by omega)]; exact na_get hk1))
        have h3 : pl l (na ws (k - 1)) < l.length := of_decide_eq_true h2
        rw [HL.out] at h3
        omega
    have tl : (ws.take k).length = k := by rw [List.length_take, WL.out]; omega
    have fl := flat_le (l := l) (ws.take k)
    rw [tl] at fl
    have HHr := hid (hB.out.holds HH4.out NA.out)
    have HWr := hid (hB.out.holds HW4.out NW.out)
    have hsr := hB.out.size
    have Zr := hid (Z4.out.but hB.out (by omega))
    have BWr := hid (HB0.out.trans (((B4.out.trans (hB.out.bel.mono (by simp only [World.size_alloc]; omega))).mono HB0.out.size)))
    by_cases hlt : k < wn
    · have hlt' : k < ws.length := by rw [WL.out]; exact hlt
      obtain ⟨wb, wo, e, R⟩ := HWr.out.rowA (by omega)
      subst e
      have c0 := R k hlt
      have p0 := hB.out.cell Q0.out (by omega)
      have p1 := hB.out.cell Q1.out (by omega)
      have p2 := hB.out.cell Q2.out (by omega)
      have p3 := hB.out.cell Q3.out (by omega)
      have p4 := hB.out.cell Q4.out (by omega)
      have tkk : ws.take (k + 1) = ws.take k ++ [na ws k] := by rw [List.take_add_one, na_get hlt']; rfl
      have ka : (0 : Int) ≤ (k : Int) := by omega
      have kb : (k : Int) < (wn : Int) := by omega
      have CA := hid (count_any a len cap l a1 len c1 MB tc tm (na ws k) 1 _ _ wr HHr.out HO.out (HWI.out _ (na_mem hlt')) hM.out (by omega) (by omega) (cnt_bound (l := l) (ws.take k) (by omega)))
      rw [addC_add] at CA
      have FN : Hid ((ws.take (k + 1)).flatMap (upR l) = (ws.take k).flatMap (upR l) ++ upR l (na ws k)) := by unfold Hid; rw [tkk, List.flatMap_append]; simp
      clear R
      cases hx : hasQ l (na ws k)
      · have TE : thereE l (na ws k) = 8 := by unfold thereE; rw [if_neg (by rw [HC.out]; decide), if_pos hx]
        have NO : Hid (allThere l ws = false) := all_no_na (f := hasQ l) hlt' hx
        rw [TE] at CA
        clear TE hx FN tkk hM
        generalize na ws k = x at *
        go_wp2_with fail
        refine CA.out.mono ?_
        rintro e w5 ⟨rfl, _, b5⟩
        obtain ⟨⟨z0, z1, z2, z3, z4⟩, f0, f1, f2, f3, f4⟩ := Zr.out.but b5 (by omega)
        have BW := hid (BWr.out.trans (b5.bel.mono (by omega)))
        clear p0 p1 p2 p3 p4 c0 b5 CA
        go_wp2
        refine bodyPost_ret (v := .tuple #[.agg #[.slice none 0 0, .slice none 0 0, .map none, .int .i64 0, .int .i64 0], .int .i64 8]) (by simp [results, Try.results34, go_sem, z0, z1, z2, z3, z4]) rfl ⟨?_, (((((BW.out).setCell (p := ⟨w.heap.size + 1, 0, none⟩) (by simp) _).setCell (p := ⟨w.heap.size + 1, 1, none⟩) (by simp) _).setCell (p := ⟨w.heap.size + 1, 2, none⟩) (by simp) _).setCell (p := ⟨w.heap.size + 1, 3, none⟩) (by simp) _).setCell (p := ⟨w.heap.size + 1, 4, none⟩) (by simp) _⟩
        exact .inl ⟨NO.out, rfl⟩
      · have TE : thereE l (na ws k) = 0 := by unfold thereE; rw [if_neg (by rw [HC.out]; decide), if_neg (by rw [hx]; decide)]
        have AN : Hid (∀ y ∈ ws.take (k + 1), hasQ l y = true) := fun y hy => by
          rw [tkk] at hy
          rcases List.mem_append.1 hy with hy | hy
          · exact hA.out y hy
          · simp at hy; rw [hy]; exact hx
        rw [TE] at CA
        clear TE hx tkk
        rw [← List.length_append, ← FN.out] at CA
        clear FN
        generalize na ws k = x at *
        go_wp2_with fail
        refine CA.out.mono ?_
        rintro e w5 ⟨rfl, m5, b5⟩
        have M5 := hid m5
        have B5 := hid (hB.out.trans b5)
        clear p0 p1 p2 p3 p4 c0 b5 CA m5
        go_wp2
        go_roundw
        case rel => exact ⟨k + 1, by omega, by go_num, AN, M5, B5⟩
        case measure => simp [intOf]; omega
    · have tkA : ws.take k = ws := List.take_of_length_le (by rw [WL.out]; omega)
      rw [tkA] at hA hM fl tl
      have AT : Hid (allThere l ws = true) := by unfold Hid allThere; rw [List.all_eq_true]; exact hA.out
      have DL := hid (dleaves_any a len cap l wa wn wc ws wr HHr.out HO.out HWr.out)
      have WF : Hid (waitF l ws = addC (fun _ => 0) 1 (ws.flatMap (upR l))) := rfl
      have wl64 : ws.length ≤ 64 := by omega
      cases hlf : allLeaf l ws
      · have LFh := hid hlf
        rw [hlf] at DL
        clear hlf
        clear hM
        go_wp2_with fail
        refine DL.out.mono ?_
        rintro e w5 ⟨rfl, b5⟩
        obtain ⟨⟨z0, z1, z2, z3, z4⟩, f0, f1, f2, f3, f4⟩ := Zr.out.below b5
        have BW := hid (BWr.out.trans (b5.mono BWr.out.size))
        clear b5 DL
        go_wp2
        refine bodyPost_ret (v := .tuple #[.agg #[.slice none 0 0, .slice none 0 0, .map none, .int .i64 0, .int .i64 0], .int .i64 14]) (by simp [results, Try.results34, go_sem, z0, z1, z2, z3, z4]) rfl ⟨?_, (((((BW.out).setCell (p := ⟨w.heap.size + 1, 0, none⟩) (by simp) _).setCell (p := ⟨w.heap.size + 1, 1, none⟩) (by simp) _).setCell (p := ⟨w.heap.size + 1, 2, none⟩) (by simp) _).setCell (p := ⟨w.heap.size + 1, 3, none⟩) (by simp) _).setCell (p := ⟨w.heap.size + 1, 4, none⟩) (by simp) _⟩
        exact .inr (.inl ⟨AT.out, LFh.out, rfl⟩)
      · have LFh := hid hlf
        rw [hlf] at DL
        clear hlf
        go_wp2_with fail
        refine DL.out.mono ?_
        rintro e w5 ⟨rfl, b5⟩
        obtain ⟨⟨z0, z1, z2, z3, z4⟩, f0, f1, f2, f3, f4⟩ := Zr.out.below b5
        have BW := hid (BWr.out.trans (b5.mono BWr.out.size))
        have p0 := keepc b5 (hB.out.cell Q0.out (by omega))
        have p1 := keepc b5 (hB.out.cell Q1.out (by omega))
        have p2 := keepc b5 (hB.out.cell Q2.out (by omega))
        have p3 := keepc b5 (hB.out.cell Q3.out (by omega))
        have p4 := keepc b5 (hB.out.cell Q4.out (by omega))
        have M5 := hid (hM.out.below b5)
        have V5 := hid ((hB.out.holds V4.out NS.out).below b5)
        have vlt := V4.out
        clear b5 DL
        go_wp2
        refine bodyPost_ret (v := .tuple #[tuv a len cap a1 len c1 MB tc tm, .int .i64 0]) (by simp [results, Try.results34, go_sem, z0, z1, z2, z3, z4]) rfl ⟨?_, (((((BW.out).setCell (p := ⟨w.heap.size + 1, 0, none⟩) (by simp) _).setCell (p := ⟨w.heap.size + 1, 1, none⟩) (by simp) _).setCell (p := ⟨w.heap.size + 1, 2, none⟩) (by simp) _).setCell (p := ⟨w.heap.size + 1, 3, none⟩) (by simp) _).setCell (p := ⟨w.heap.size + 1, 4, none⟩) (by simp) _⟩
        have BU := ((((((But.refl (w.heap.size + 1) w5).set (o := 0) (v := .slice a len cap)).set (o := 1) (v := .slice a1 len c1)).set (o := 2) (v := .map (some MB))).set (o := 3) (v := .int .i64 tc)).set (o := 4) (v := .int .i64 tm))
        refine .inr (.inr ⟨AT.out, LFh.out, a1, c1, MB, (ws.flatMap (upR l)).length, rfl, BU.holds V5.out NB.out, M5.out.same (BU.oth MB M5.out.lt (by omega)), by rw [tl]; exact fl, wl64, by omega, fun x o e => NS.out x o e hpos⟩)

end Go.Proofs.Ytglifgnaecbniaa

namespace Go.Proofs.Ytglifgnaecbniaa
open Go.RowKit Go.Deep Go.Maps Go.Shelf
set_option linter.unusedVariables false
set_option linter.unusedSimpArgs false

/-- What read answers, where it answers no error. -/
def Turns (w0 w' : World) (a : Option Addr) (len cap : Nat) (l : List Qu) (us : List Us) (ws : List Int) (tc tm : Int) (v : Value) : Prop :=
  ∃ sb so sc mb m, v = tuv a len cap (some ⟨sb, so, none⟩) len sc mb tc tm ∧ HoldsV w' (some ⟨sb, so, none⟩) len sc (vecsTo l us len) ∧ CntM w' mb m (waitF l ws) ∧ m ≤ 64 * ws.length ∧ ws.length ≤ 64 ∧ w0.heap.size ≤ mb ∧ sb ≠ mb
theorem readE_zero {l : List Qu} {us : List Us} {ws : List Int} {tc tm : Int} (h : readE l us ws tc tm = 0) : sumsE l us = 0 ∧ okv (tc, tm) = true ∧ riseB ws = true ∧ ws.length ≠ 0 ∧ allThere l ws = true ∧ allLeaf l ws = true := by
  unfold readE at h
  split at h
  · rename_i h1; exact absurd h h1
  rename_i h1
  split at h
  · omega
  rename_i h2
  split at h
  · omega
  rename_i h3
  split at h
  · omega
  rename_i h4
  split at h
  · omega
  rename_i h5
  split at h
  · omega
  rename_i h6
  exact ⟨by simpa using h1, by simpa using h2, by simpa using h3, h4, by simpa using h5, by simpa using h6⟩
theorem dread_any (a : Option Addr) (len cap : Nat) (l : List Qu) (ub : Option Addr) (n uc : Nat) (us : List Us) (wa : Option Addr) (wn wc : Nat) (ws : List Int) (tc tm : Int) (w : World) (h : HoldsQ w a len cap l) (hok : ∀ q ∈ l, q.ok) (hu : HoldsU w ub n uc us) (hq : ∀ u ∈ us, I64 u.qu) (hw : HoldsN w wa wn wc ws) (hwi : ∀ x ∈ ws, I64 x) :
    Calls Try.prog 34 #[.slice a len cap, .slice ub n uc, .slice wa wn wc, .agg #[.int .i64 tc, .int .i64 tm]] w fun e w' => ((readE l us ws tc tm ≠ 0 ∧ e = .returned (.tuple #[.agg #[.slice none 0 0, .slice none 0 0, .map none, .int .i64 0, .int .i64 0], .int .i64 (readE l us ws tc tm)])) ∨ (readE l us ws tc tm = 0 ∧ ∃ v, e = .returned (.tuple #[v, .int .i64 0]) ∧ Turns w w' a len cap l us ws tc tm v)) ∧ Below w.heap.size w w' := by
  by_cases hS : sumsE l us = 0
  · cases ht : okv (tc, tm)
    · have e : readE l us ws tc tm = 1 := by unfold readE; simp [hS, ht]
      rw [e]
      refine (dread_arg a len cap l ub n uc us wa wn wc ws tc tm w h hok hu hq hw hwi hS ht).mono ?_
      rintro e w' ⟨rfl, hb⟩
      exact ⟨.inl ⟨by decide, rfl⟩, hb⟩
    · cases hr : riseB ws
      · have e : readE l us ws tc tm = 4 := by unfold readE; simp [hS, ht, hr]
        rw [e]
        refine (dread_form a len cap l ub n uc us wa wn wc ws tc tm w h hok hu hq hw hwi hS ht hr).mono ?_
        rintro e w' ⟨rfl, hb⟩
        exact ⟨.inl ⟨by decide, rfl⟩, hb⟩
      · by_cases h0 : ws.length = 0
        · have e : readE l us ws tc tm = 8 := by unfold readE; simp [hS, ht, hr, h0]
          rw [e]
          refine (dread_none a len cap l ub n uc us wa wn wc ws tc tm w h hok hu hq hw hwi hS ht hr h0).mono ?_
          rintro e w' ⟨rfl, hb⟩
          exact ⟨.inl ⟨by decide, rfl⟩, hb⟩
        · refine (dread_loop a len cap l ub n uc us wa wn wc ws tc tm w h hok hu hq hw hwi hS ht hr h0).mono ?_
          rintro e w' ⟨h1 | h1 | h1, hb⟩
          · obtain ⟨g1, rfl⟩ := h1
            have e : readE l us ws tc tm = 8 := by unfold readE; rw [if_neg (by rw [hS]; decide), if_neg (by rw [ht]; decide), if_neg (by rw [hr]; decide), if_neg h0, if_pos g1]
            rw [e]
            exact ⟨.inl ⟨by decide, rfl⟩, hb⟩
          · obtain ⟨g1, g2, rfl⟩ := h1
            have e : readE l us ws tc tm = 14 := by unfold readE; rw [if_neg (by rw [hS]; decide), if_neg (by rw [ht]; decide), if_neg (by rw [hr]; decide), if_neg h0, if_neg (by rw [g1]; decide), if_pos g2]
            rw [e]
            exact ⟨.inl ⟨by decide, rfl⟩, hb⟩
          · obtain ⟨g1, g2, sa, sc, mb, m, rfl, g3, g4, g5, g6, g7, g8⟩ := h1
            have e : readE l us ws tc tm = 0 := by unfold readE; rw [if_neg (by rw [hS]; decide), if_neg (by rw [ht]; decide), if_neg (by rw [hr]; decide), if_neg h0, if_neg (by rw [g1]; decide), if_neg (by rw [g2]; decide)]
            have hp : 0 < len := by have := (chkE_ok.1 (sumsE_zero hS).1).2.1.1; rw [h.1] at this; exact this
            obtain ⟨sb, so, rfl, _⟩ := g3.rowV hp
            exact ⟨.inr ⟨e, _, rfl, sb, so, sc, mb, m, rfl, g3, g4, g5, g6, g7, g8 _ _ rfl⟩, hb⟩
  · have e : readE l us ws tc tm = sumsE l us := by unfold readE; rw [if_pos hS]
    rw [e]
    refine (dread_sums a len cap l ub n uc us wa wn wc ws tc tm w h hok hu hq hw hwi _ rfl hS).mono ?_
    rintro e w' ⟨rfl, hb⟩
    exact ⟨.inl ⟨hS, rfl⟩, hb⟩

/-- What Choose tells. -/
def chooseR (l : List Qu) (us : List Us) (ws : List Int) (tc tm : Int) : Int := if readE l us ws tc tm = 0 then (qa l (desc l us tc tm (waitF l ws) 0)).id else 0

set_option maxRecDepth 100000 in
set_option maxHeartbeats 4000000 in
theorem choose_any (a : Option Addr) (len cap : Nat) (l : List Qu) (ub : Option Addr) (n uc : Nat) (us : List Us) (wa : Option Addr) (wn wc : Nat) (ws : List Int) (tc tm : Int) (w : World) (h : HoldsQ w a len cap l) (hok : ∀ q ∈ l, q.ok) (hu : HoldsU w ub n uc us) (hq : ∀ u ∈ us, I64 u.qu) (hw : HoldsN w wa wn wc ws) (hwi : ∀ x ∈ ws, I64 x) :
    Calls Try.prog 12 #[.slice a len cap, .slice ub n uc, .slice wa wn wc, .agg #[.int .i64 tc, .int .i64 tm]] w fun e w' => e = .returned (.tuple #[.int .i64 (chooseR l us ws tc tm), .int .i64 (readE l us ws tc tm)]) ∧ Below w.heap.size w w' := by
  have hB0 : Below w.heap.size w (w.alloc (.cells #[.int .i64 tc, .int .i64 tm] 26)) := (Below.refl _ w).alloc (Nat.le_refl _) _
  have RD := hid (dread_any a len cap l ub n uc us wa wn wc ws tc tm (w.alloc (.cells #[.int .i64 tc, .int .i64 tm] 26)) (h.below hB0) hok (hu.below hB0) hq (hw.below hB0) hwi)
  have HH := hid (h.below hB0)
  have HO := hid hok
  have HL := hid h.1
  have hcap := h.2.1
  have HB0 := hid hB0
  clear h hok hu hq hw hwi hB0
  by_cases hE : readE l us ws tc tm = 0
  · obtain ⟨hS, ht, _⟩ := readE_zero hE
    have HS := hid hS
    have HT := hid ht
    have EE := hid hE
    have CR : Hid (chooseR l us ws tc tm = (qa l (desc l us tc tm (waitF l ws) 0)).id) := by unfold Hid chooseR; rw [if_pos hE]
    have hpos : 0 < len := by have := (chkE_ok.1 (sumsE_zero hS).1).2.1.1; rw [HL.out] at this; exact this
    clear hE hS ht
    obtain ⟨RES, hRES⟩ : ∃ RES, (qa l (desc l us tc tm (waitF l ws) 0)).id = RES := ⟨_, rfl⟩
    rw [EE.out, CR.out, hRES]
    have HRES := hid hRES
    clear hRES
    go_enter Try.func12, Try.ntmps12
    go_wp2_with fail
    refine RD.out.mono ?_
    rintro e w1 ⟨h1 | h1, b1⟩
    · exact absurd EE.out h1.1
    · obtain ⟨_, v, rfl, sb, so, sc, mb, m, rfl, g3, g4, g5, g6, g7, g8⟩ := h1
      obtain ⟨lb, lo, e, hRq⟩ := (HH.out.below b1).row hpos
      subst e
      have B1 := hid (b1.alloc b1.size (tub (some ⟨lb, lo, none⟩) len cap (some ⟨sb, so, none⟩) len sc mb tc tm))
      have kA := (Below.refl _ w1).alloc (Nat.le_refl _) (tub (some ⟨lb, lo, none⟩) len cap (some ⟨sb, so, none⟩) len sc mb tc tm)
      have NX := hid (next_any lb lo len cap sb so sc mb m l us tc tm (waitF l ws) (w1.alloc (tub (some ⟨lb, lo, none⟩) len cap (some ⟨sb, so, none⟩) len sc mb tc tm)) (hRq.below kA) (g3.below kA) HL.out hcap HS.out HT.out (g4.below kA) HO.out)
      rw [HRES.out] at NX
      clear kA g3 g4 hRq b1 RD
      go_wp2_with fail
      refine NX.out.mono ?_
      rintro e w2 ⟨rfl, b2⟩
      have B2 := hid (HB0.out.trans ((B1.out.trans (b2.mono B1.out.size)).mono HB0.out.size))
      go_wp2
      go_ret2
      exact ⟨rfl, B2.out⟩
  · have t : (readE l us ws tc tm != 0) = true := by simpa using hE
    have CR : Hid (chooseR l us ws tc tm = 0) := by unfold Hid chooseR; rw [if_neg hE]
    have EE := hid hE
    clear hE
    rw [CR.out]
    generalize readE l us ws tc tm = E at *
    go_enter Try.func12, Try.ntmps12
    go_wp2_with fail
    refine RD.out.mono ?_
    rintro e w1 ⟨h1 | h1, b1⟩
    · obtain ⟨_, rfl⟩ := h1
      have B1 := hid (HB0.out.trans ((b1.alloc b1.size (.cells #[.slice none 0 0, .slice none 0 0, .map none, .int .i64 0, .int .i64 0] 65)).mono HB0.out.size))
      clear b1 RD
      go_wp2
      go_ret2
      exact ⟨rfl, B1.out⟩
    · exact absurd h1.1 EE.out

end Go.Proofs.Ytglifgnaecbniaa

namespace Go.Proofs.Ytglifgnaecbniaa
open Go.RowKit Go.Deep Go.Maps Go.Shelf
set_option linter.unusedVariables false
set_option linter.unusedSimpArgs false

/-- Who waits still, behind so many turns. -/
def fAt (l : List Qu) (us : List Us) (ws : List Int) (tc tm : Int) : Nat → Int → Int
  | 0 => waitF l ws
  | k + 1 => addC (fAt l us ws tc tm k) (-1) (upR l (qa l (desc l us tc tm (fAt l us ws tc tm k) 0)).id)
/-- Whose turn it is. -/
def turnAt (l : List Qu) (us : List Us) (ws : List Int) (tc tm : Int) (k : Nat) : Int := (qa l (desc l us tc tm (fAt l us ws tc tm k) 0)).id
def ordTo (l : List Qu) (us : List Us) (ws : List Int) (tc tm : Int) (k : Nat) : List Int := (List.range k).map (turnAt l us ws tc tm)
theorem ordTo_snoc (l : List Qu) (us : List Us) (ws : List Int) (tc tm : Int) (k : Nat) : ordTo l us ws tc tm (k + 1) = ordTo l us ws tc tm k ++ [turnAt l us ws tc tm k] := by unfold ordTo; rw [List.range_succ, List.map_append]; rfl
theorem ordTo_len (l : List Qu) (us : List Us) (ws : List Int) (tc tm : Int) (k : Nat) : (ordTo l us ws tc tm k).length = k := by unfold ordTo; simp
theorem fAt_bound {l : List Qu} {us : List Us} {ws : List Int} {tc tm : Int} (h : ws.length ≤ 64) : ∀ (k : Nat) (x : Int), -(4096 + 64 * (k : Int)) ≤ fAt l us ws tc tm k x ∧ fAt l us ws tc tm k x ≤ 4096 + 64 * (k : Int) := by
  intro k
  induction k with
  | zero =>
    intro x
    unfold fAt waitF addC
    have h1 := flat_le (l := l) ws
    have h2 : (ws.flatMap (upR l)).count x ≤ (ws.flatMap (upR l)).length := List.count_le_length
    dsimp only
    omega
  | succ k ih =>
    intro x
    unfold fAt addC
    have h1 := ih x
    have h2 := upR_le l (qa l (desc l us tc tm (fAt l us ws tc tm k) 0)).id
    have h3 : (upR l (qa l (desc l us tc tm (fAt l us ws tc tm k) 0)).id).count x ≤ (upR l (qa l (desc l us tc tm (fAt l us ws tc tm k) 0)).id).length := List.count_le_length
    omega
theorem But.far {b : Nat} {A w w' : World} {row : Option Nat} (h : But b A w) (hb : b ≤ A.heap.size) (hg : w.grownBy w' row) (hr : ∀ g, row = some g → A.heap.size ≤ g) : But b A w' :=
  ⟨h.bel.grown hg (Nat.le_trans hb h.size) (fun k e => Nat.le_trans hb (hr k e)), fun k hk hn => (hg.block k (Nat.lt_of_lt_of_le hk h.size) (fun e => by have := hr k e.symm; omega)).trans (h.oth k hk hn)⟩
theorem OwnE.but {α : Type} {e : TypeId} {k : Nat} {enc : α → List Value} {base n b : Nat} {l : List α} {v : Value} {w w' : World} (h : OwnE e k enc base w v n l) (hb : But b w w') (hlt : b < base) : OwnE e k enc base w' v n l := by
  obtain ⟨h0, h1, h2⟩ := h
  refine ⟨h0, h1, ?_⟩
  rcases h2 with h2 | ⟨g, cap, cur, hv, hg, hh, r⟩
  · exact .inl h2
  · refine .inr ⟨g, cap, cur, hv, hg, ?_, r⟩
    rw [hb.oth g (Array.getElem?_eq_some_iff.1 hh).1 (by omega)]
    exact hh
/-- What Order tells. -/
def orderR (l : List Qu) (us : List Us) (ws : List Int) (tc tm : Int) : List Int := if readE l us ws tc tm = 0 then ordTo l us ws tc tm ws.length else []

set_option maxRecDepth 100000 in
set_option maxHeartbeats 4000000 in
theorem order_no (a : Option Addr) (len cap : Nat) (l : List Qu) (ub : Option Addr) (n uc : Nat) (us : List Us) (wa : Option Addr) (wn wc : Nat) (ws : List Int) (tc tm : Int) (w : World) (h : HoldsQ w a len cap l) (hok : ∀ q ∈ l, q.ok) (hu : HoldsU w ub n uc us) (hq : ∀ u ∈ us, I64 u.qu) (hw : HoldsN w wa wn wc ws) (hwi : ∀ x ∈ ws, I64 x) (hE : readE l us ws tc tm ≠ 0) :
    Calls Try.prog 14 #[.slice a len cap, .slice ub n uc, .slice wa wn wc, .agg #[.int .i64 tc, .int .i64 tm]] w fun e w' => e = .returned (.tuple #[.slice none 0 0, .int .i64 (readE l us ws tc tm)]) ∧ Below w.heap.size w w' := by
  have hB0 : Below w.heap.size w (w.alloc (.cells #[.int .i64 tc, .int .i64 tm] 26)) := (Below.refl _ w).alloc (Nat.le_refl _) _
  have RD := hid (dread_any a len cap l ub n uc us wa wn wc ws tc tm (w.alloc (.cells #[.int .i64 tc, .int .i64 tm] 26)) (h.below hB0) hok (hu.below hB0) hq (hw.below hB0) hwi)
  have HB0 := hid hB0
  clear h hok hu hq hw hwi hB0
  have t : (readE l us ws tc tm != 0) = true := by simpa using hE
  have EE := hid hE
  clear hE
  generalize readE l us ws tc tm = E at *
  go_enter Try.func14, Try.ntmps14
  go_wp2_with fail
  refine RD.out.mono ?_
  rintro e w1 ⟨h1 | h1, b1⟩
  · obtain ⟨_, rfl⟩ := h1
    have B1 := hid (HB0.out.trans ((b1.alloc b1.size (.cells #[.slice none 0 0, .slice none 0 0, .map none, .int .i64 0, .int .i64 0] 65)).mono HB0.out.size))
    clear b1 RD
    go_wp2
    go_ret2
    exact ⟨rfl, B1.out⟩
  · exact absurd h1.1 EE.out

set_option maxRecDepth 100000 in
set_option maxHeartbeats 4000000 in
theorem order_yes (a : Option Addr) (len cap : Nat) (l : List Qu) (ub : Option Addr) (n uc : Nat) (us : List Us) (wa : Option Addr) (wn wc : Nat) (ws : List Int) (tc tm : Int) (w : World) (h : HoldsQ w a len cap l) (hok : ∀ q ∈ l, q.ok) (hu : HoldsU w ub n uc us) (hq : ∀ u ∈ us, I64 u.qu) (hw : HoldsN w wa wn wc ws) (hwi : ∀ x ∈ ws, I64 x) (hE : readE l us ws tc tm = 0) :
    Calls Try.prog 14 #[.slice a len cap, .slice ub n uc, .slice wa wn wc, .agg #[.int .i64 tc, .int .i64 tm]] w fun e w' => ∃ v, e = .returned (.tuple #[v, .int .i64 0]) ∧ OwnN w.heap.size w' v ws.length (ordTo l us ws tc tm ws.length) ∧ Below w.heap.size w w' := by
  have hB0 : Below w.heap.size w (w.alloc (.cells #[.int .i64 tc, .int .i64 tm] 26)) := (Below.refl _ w).alloc (Nat.le_refl _) _
  have RD := hid (dread_any a len cap l ub n uc us wa wn wc ws tc tm (w.alloc (.cells #[.int .i64 tc, .int .i64 tm] 26)) (h.below hB0) hok (hu.below hB0) hq (hw.below hB0) hwi)
  have HH := hid (h.below hB0)
  have HO := hid hok
  have HL := hid h.1
  have WL := hid hw.1
  have hcap := h.2.1
  have wcap := hw.2.1
  have HB0 := hid hB0
  clear h hok hu hq hw hwi hB0
  obtain ⟨hS, ht, _⟩ := readE_zero hE
  have HS := hid hS
  have HT := hid ht
  have EE := hid hE
  have hpos : 0 < len := by have := (chkE_ok.1 (sumsE_zero hS).1).2.1.1; rw [HL.out] at this; exact this
  clear hE hS ht
  go_enter Try.func14, Try.ntmps14
  go_wp2_with fail
  refine RD.out.mono ?_
  rintro e w1 ⟨h1 | h1, b1⟩
  · exact absurd EE.out h1.1
  obtain ⟨_, v, rfl, sb, so, sc, mb, m, rfl, g3, g4, g5, g6, g7, g8⟩ := h1
  have hH1 := HH.out.below b1
  obtain ⟨lb, lo, e, hRq⟩ := hH1.row hpos
  subst e
  have hw0 : wn ≤ 64 := by rw [← WL.out]; exact g6
  have G5 : m ≤ 4096 := by omega
  have kA := (Below.refl _ w1).alloc (Nat.le_refl _) (tub (some ⟨lb, lo, none⟩) len cap (some ⟨sb, so, none⟩) len sc mb tc tm)
  have B2 := hid (b1.alloc b1.size (tub (some ⟨lb, lo, none⟩) len cap (some ⟨sb, so, none⟩) len sc mb tc tm))
  have V2 := hid (g3.below kA)
  have M2 := hid (g4.below kA)
  have H2 := hid (hH1.below kA)
  have mlt := g4.lt
  have lblt := hRq.1
  have sblt := g3.blk rfl hpos
  have lbne : lb ≠ mb := fun e => by
    have := (HH.out.blk rfl hpos)
    omega
  have q0 : (w1.alloc (tub (some ⟨lb, lo, none⟩) len cap (some ⟨sb, so, none⟩) len sc mb tc tm)).cell? ⟨w1.heap.size, 0, none⟩ = some (.slice (some ⟨lb, lo, none⟩) len cap) := by simp [go_sem]
  have q1 : (w1.alloc (tub (some ⟨lb, lo, none⟩) len cap (some ⟨sb, so, none⟩) len sc mb tc tm)).cell? ⟨w1.heap.size, 1, none⟩ = some (.slice (some ⟨sb, so, none⟩) len sc) := by simp [go_sem]
  have q2 : (w1.alloc (tub (some ⟨lb, lo, none⟩) len cap (some ⟨sb, so, none⟩) len sc mb tc tm)).cell? ⟨w1.heap.size, 2, none⟩ = some (.map (some mb)) := by simp [go_sem]
  have q3 : (w1.alloc (tub (some ⟨lb, lo, none⟩) len cap (some ⟨sb, so, none⟩) len sc mb tc tm)).cell? ⟨w1.heap.size, 3, none⟩ = some (.int .i64 tc) := by simp [go_sem]
  have q4 : (w1.alloc (tub (some ⟨lb, lo, none⟩) len cap (some ⟨sb, so, none⟩) len sc mb tc tm)).cell? ⟨w1.heap.size, 4, none⟩ = some (.int .i64 tm) := by simp [go_sem]
  have Q0 := hid q0
  have Q1 := hid q1
  have Q2 := hid q2
  have Q3 := hid q3
  have Q4 := hid q4
  have hsz2 : (w1.alloc (tub (some ⟨lb, lo, none⟩) len cap (some ⟨sb, so, none⟩) len sc mb tc tm)).heap.size = w1.heap.size + 1 := by simp
  have szb := b1.size
  clear q0 q1 q2 q3 q4 kA g3 g4 hRq hH1 b1 RD
  go_wp2_with fail
  generalize (w1.alloc (tub (some ⟨lb, lo, none⟩) len cap (some ⟨sb, so, none⟩) len sc mb tc tm)) = w2 at *
  generalize w1.heap.size = TB at *
  simp only [World.size_alloc] at szb g7
  have hsz3 : TB < w2.heap.size := by omega
  clear hsz2
  go_loopw [27, 12] (fun i v wr => ∃ k : Nat, k ≤ wn ∧ i = .int .i64 (k : Int) ∧ Hid (OwnN w2.heap.size wr v k (ordTo l us ws tc tm k)) ∧ (∃ mm, mm ≤ 4096 + 64 * k ∧ Hid (CntM wr mb mm (fAt l us ws tc tm k))) ∧ Hid (But mb w2 wr)) (fun i _ _ => wn - (intOf i).toNat)
  case atStart => exact ⟨0, by omega, rfl, OwnE.nil _ _ _ _ _, ⟨m, by omega, M2⟩, But.refl _ _⟩
  case round =>
    obtain ⟨k, hk, rfl, ho, ⟨mm, hmm, hM⟩, hB⟩ := hrel
    by_cases hlt : k < wn
    · have p0 := hB.out.cell Q0.out (by omega)
      have p1 := hB.out.cell Q1.out (by omega)
      have p2 := hB.out.cell Q2.out (by omega)
      have p3 := hB.out.cell Q3.out (by omega)
      have p4 := hB.out.cell Q4.out (by omega)
      have Hr := hid (hB.out.holds H2.out (fun x o e _ => by cases e; exact lbne))
      have Vr := hid (hB.out.holds V2.out (fun x o e _ => by cases e; exact g8))
      have NX := hid (next_any lb lo len cap sb so sc mb mm l us tc tm (fAt l us ws tc tm k) wr (by obtain ⟨x, y, e, r⟩ := Hr.out.row hpos; cases e; exact r) Vr.out HL.out hcap HS.out HT.out hM.out HO.out)
      obtain ⟨X, hX⟩ : ∃ X, (qa l (desc l us tc tm (fAt l us ws tc tm k) 0)).id = X := ⟨_, rfl⟩
      have XI : I64 X := by rw [← hX]; exact (qa_ok HO.out _).1
      have FN : Hid (fAt l us ws tc tm (k + 1) = addC (fAt l us ws tc tm k) (-1) (upR l X)) := by unfold Hid; rw [← hX]; rfl
      have ON : Hid (ordTo l us ws tc tm (k + 1) = ordTo l us ws tc tm k ++ [X]) := by unfold Hid; rw [ordTo_snoc]; unfold turnAt; rw [hX]
      rw [hX] at NX
      have UL := upR_le l X
      have FB := hid (fAt_bound (l := l) (us := us) (ws := ws) (tc := tc) (tm := tm) g6 k)
      clear hX
      go_wp2_with fail
      refine NX.out.mono ?_
      rintro e w3 ⟨rfl, b3⟩
      have B3 := hid (hB.out.trans (But.of b3 (by have := hB.out.size; omega)))
      have CA := hid (count_any (some ⟨lb, lo, none⟩) len cap l (some ⟨sb, so, none⟩) len sc mb tc tm X (-1) mm _ w3 (Hr.out.below b3) HO.out XI (hM.out.below b3) (by omega) (by omega) (fun x => by have := FB.out x; omega))
      have o3 := hid (ho.out.below b3)
      replace p0 := keepc b3 p0
      replace p1 := keepc b3 p1
      replace p2 := keepc b3 p2
      replace p3 := keepc b3 p3
      replace p4 := keepc b3 p4
      clear b3 NX
      generalize thereE l X = TE at *
      go_wp2_with fail
      refine CA.out.mono ?_
      rintro e w5 ⟨rfl, m5, b5⟩
      rw [← FN.out] at m5
      have M5 := hid m5
      have B5 := hid (B3.out.trans b5)
      have o5 := hid (o3.out.but b5 (by omega))
      have s5 := B5.out.size
      clear p0 p1 p2 p3 p4 b5 CA m5 o3 ho hM
      go_wp2_with (at_builtin; refine push_ownN w5 X rfl (.tmp 34) (.tmp 36) rfl w2.heap.size k u12 _ rfl o5.out s5 rfl (by omega) ?_)
      intro v6 w6 o6 b6 g6'
      rw [← ON.out] at o6
      have hge : ∀ g, u12.ownBlock = some g → w2.heap.size ≤ g := fun g hg => (o5.out.lt g hg).1
      have B6 := hid (B5.out.far (by omega) g6' hge)
      have M6 := hid (M5.out.same (g6'.block mb (by have := M5.out.lt; omega) (fun e => by have := hge mb e.symm; omega)))
      have O6 := hid o6
      clear o6 b6 g6'
      go_wp2
      go_roundw
      case rel => exact ⟨k + 1, by omega, by go_num, O6, ⟨mm + (upR l X).length, by omega, M6⟩, B6⟩
      case measure => simp [intOf]; omega
    · have kw : k = ws.length := by rw [WL.out]; omega
      rw [kw] at ho
      have BF := HB0.out.trans ((B2.out.trans (hB.out.bel.mono (by simp only [World.size_alloc]; omega))).mono HB0.out.size)
      go_wp2
      go_ret2
      exact ⟨_, rfl, ho.out.weaken (by omega), BF⟩

end Go.Proofs.Ytglifgnaecbniaa

namespace Go.Proofs.Ytglifgnaecbniaa
open Go.RowKit Go.Deep Go.Maps Go.Shelf
set_option linter.unusedVariables false
set_option linter.unusedSimpArgs false

def l3 : List Qu := [⟨0, -1, 1, 10, 10, 0, 0⟩, ⟨1, 0, 1, 10, 10, 0, 0⟩, ⟨2, 0, 2, 10, 10, 0, 0⟩]
def us2 : List Us := [⟨1, 2, 0⟩, ⟨2, 3, 0⟩]
theorem l3_chk : chkE l3 = 0 := by decide
theorem l3_p0 : pth l3 0 = [0] := pth_root (by decide)
theorem l3_p1 : pth l3 1 = [1, 0] := by
  have h : pl l3 (qa l3 1).par < 1 := by decide
  rw [pth_step h, show pl l3 (qa l3 1).par = 0 by decide, l3_p0]
theorem l3_p2 : pth l3 2 = [2, 0] := by
  have h : pl l3 (qa l3 2).par < 2 := by decide
  rw [pth_step h, show pl l3 (qa l3 2).par = 0 by decide, l3_p0]
theorem l3_pl1 : pl l3 1 = 1 := by decide
theorem l3_pl2 : pl l3 2 = 2 := by decide
theorem l3_v0 : vecAt l3 us2 0 = (5, 0) := by unfold vecAt us2; simp [sumU, l3_pl1, l3_pl2, l3_p1, l3_p2]
theorem l3_v1 : vecAt l3 us2 1 = (2, 0) := by unfold vecAt us2; simp [sumU, l3_pl1, l3_pl2, l3_p1, l3_p2]
theorem l3_v2 : vecAt l3 us2 2 = (3, 0) := by unfold vecAt us2; simp [sumU, l3_pl1, l3_pl2, l3_p1, l3_p2]
theorem l3_uses : ∀ u ∈ us2, useE l3 u = 0 := by decide
theorem l3_fits : fitsB l3 us2 = true := fitsB_yes (fun k hk => by
  have : k = 0 ∨ k = 1 ∨ k = 2 := by simp [l3] at hk; omega
  rcases this with rfl | rfl | rfl
  · rw [l3_v0]; decide
  · rw [l3_v1]; decide
  · rw [l3_v2]; decide)
theorem l3_sums : sumsE l3 us2 = 0 := by
  unfold sumsE
  rw [if_neg (by rw [l3_chk]; decide), if_neg (by rw [usesE_good l3_uses]; decide), if_neg (by rw [l3_fits]; decide)]
theorem l3_read : readE l3 us2 [1, 2] 10 10 = 0 := by
  have a : allThere l3 [1, 2] = true := by decide
  have b : allLeaf l3 [1, 2] = true := by decide
  have c : riseB [1, 2] = true := by decide
  have d : okv (10, 10) = true := by decide
  unfold readE
  simp [l3_sums, a, b, c, d]
theorem l3_u1 : upR l3 1 = [1, 0] := by
  unfold upR
  rw [if_pos (by decide), l3_pl1, l3_p1]; rfl
theorem l3_u2 : upR l3 2 = [2, 0] := by
  unfold upR
  rw [if_pos (by decide), l3_pl2, l3_p2]; rfl
theorem l3_c : cmpAt l3 us2 10 10 2 1 < 0 := by
  unfold cmpAt
  rw [l3_v1, l3_v2]
  decide
theorem l3_w : waitF l3 [1, 2] = fun x => 0 + 1 * (([1, 0, 2, 0] : List Int).count x : Int) := by
  unfold waitF
  rw [List.flatMap_cons, List.flatMap_cons, List.flatMap_nil, l3_u1, l3_u2]
  rfl

end Go.Proofs.Ytglifgnaecbniaa

namespace Go.Proofs.Ytglifgnaecbniaa
open Go.RowKit Go.Deep Go.Maps Go.Shelf
set_option linter.unusedVariables false
set_option linter.unusedSimpArgs false

theorem l3_b0 : bstI l3 us2 10 10 (waitF l3 [1, 2]) (qa l3 0).id l3.length = 2 := by
  rw [l3_w]
  have c := l3_c
  simp [bstI, qa, l3] at c ⊢
  omega
theorem l3_b2 (f : Int → Int) : bstI l3 us2 10 10 f (qa l3 2).id l3.length = -1 := by simp [bstI, qa, l3]
theorem l3_b1 (f : Int → Int) : bstI l3 us2 10 10 f (qa l3 1).id l3.length = -1 := by simp [bstI, qa, l3]
theorem l3_form : Form l3 := (chkE_ok.1 l3_chk).2.1
theorem l3_d0 : desc l3 us2 10 10 (waitF l3 [1, 2]) 0 = 2 := by
  rw [(desc_step l3_form (h := 0) (b := 2) (by decide) (by decide) l3_b0 (by decide)).2, desc_stop (l3_b2 _)]
theorem l3_f1 : fAt l3 us2 [1, 2] 10 10 1 = fun x => (0 + 1 * (([1, 0, 2, 0] : List Int).count x : Int)) + (-1) * (([2, 0] : List Int).count x : Int) := by
  show addC (fAt l3 us2 [1, 2] 10 10 0) (-1) (upR l3 (qa l3 (desc l3 us2 10 10 (fAt l3 us2 [1, 2] 10 10 0) 0)).id) = _
  have e : fAt l3 us2 [1, 2] 10 10 0 = waitF l3 [1, 2] := rfl
  rw [e, l3_d0, show (qa l3 2).id = 2 by decide, l3_u2, l3_w]
  rfl
theorem l3_b01 : bstI l3 us2 10 10 (fAt l3 us2 [1, 2] 10 10 1) (qa l3 0).id l3.length = 1 := by
  rw [l3_f1]
  simp [bstI, qa, l3]
theorem l3_d1 : desc l3 us2 10 10 (fAt l3 us2 [1, 2] 10 10 1) 0 = 1 := by
  rw [(desc_step l3_form (h := 0) (b := 1) (by decide) (by decide) l3_b01 (by decide)).2, desc_stop (l3_b1 _)]
theorem l3_choose : chooseR l3 us2 [1, 2] 10 10 = 2 := by
  unfold chooseR
  rw [if_pos l3_read, l3_d0]; decide
theorem l3_order : ordTo l3 us2 [1, 2] 10 10 2 = [2, 1] := by
  have e : fAt l3 us2 [1, 2] 10 10 0 = waitF l3 [1, 2] := rfl
  unfold ordTo turnAt
  simp only [List.range_succ, List.range_zero, List.nil_append, List.map_append, List.map_cons, List.map_nil, List.cons_append]
  rw [e, l3_d0, l3_d1]
  decide

/-- A literal. -/
theorem lit_holds {α : Type} {k : Nat} {enc : α → List Value} (hk : ∀ x, (enc x).length = k) (w : World) (T : TypeId) (l : List α) (arr : Array Value) (ha : arr = (l.flatMap enc).toArray) (hn : l.length ≤ 1000) : HoldsE k enc (w.alloc (.cells arr T)) (some ⟨w.heap.size, 0, none⟩) l.length l.length l := by
  subst ha
  refine ⟨rfl, Nat.le_refl _, by omega, (fun e => by cases e), fun _ => ⟨w.heap.size, 0, rfl, by simp, fun j x hx i v hv => ?_⟩⟩
  have h := flat_get hk l j x i v hx hv
  rw [Nat.zero_add]
  simp [go_sem, h]

set_option maxRecDepth 100000 in
set_option maxHeartbeats 4000000 in
theorem awake6_any (w : World) : Calls Try.prog 11 #[] w fun e w' => e = .returned (.bool true) ∧ Below w.heap.size w w' := by
  have h1 : Below w.heap.size w (w.alloc (.cells #[.int .i64 10, .int .i64 10] 26)) := (Below.refl _ w).alloc (Nat.le_refl _) _
  have h2 : Below (w.alloc (.cells #[.int .i64 10, .int .i64 10] 26)).heap.size (w.alloc (.cells #[.int .i64 10, .int .i64 10] 26)) ((w.alloc (.cells #[.int .i64 10, .int .i64 10] 26)).alloc (.cells #[.int .i64 0, .int .i64 (-1), .int .i64 1, .int .i64 10, .int .i64 10, .int .i64 0, .int .i64 0, .int .i64 1, .int .i64 0, .int .i64 1, .int .i64 10, .int .i64 10, .int .i64 0, .int .i64 0, .int .i64 2, .int .i64 0, .int .i64 2, .int .i64 10, .int .i64 10, .int .i64 0, .int .i64 0] 42)) := (Below.refl _ _).alloc (Nat.le_refl _) _
  have h3 : Below ((w.alloc (.cells #[.int .i64 10, .int .i64 10] 26)).alloc (.cells #[.int .i64 0, .int .i64 (-1), .int .i64 1, .int .i64 10, .int .i64 10, .int .i64 0, .int .i64 0, .int .i64 1, .int .i64 0, .int .i64 1, .int .i64 10, .int .i64 10, .int .i64 0, .int .i64 0, .int .i64 2, .int .i64 0, .int .i64 2, .int .i64 10, .int .i64 10, .int .i64 0, .int .i64 0] 42)).heap.size ((w.alloc (.cells #[.int .i64 10, .int .i64 10] 26)).alloc (.cells #[.int .i64 0, .int .i64 (-1), .int .i64 1, .int .i64 10, .int .i64 10, .int .i64 0, .int .i64 0, .int .i64 1, .int .i64 0, .int .i64 1, .int .i64 10, .int .i64 10, .int .i64 0, .int .i64 0, .int .i64 2, .int .i64 0, .int .i64 2, .int .i64 10, .int .i64 10, .int .i64 0, .int .i64 0] 42)) (((w.alloc (.cells #[.int .i64 10, .int .i64 10] 26)).alloc (.cells #[.int .i64 0, .int .i64 (-1), .int .i64 1, .int .i64 10, .int .i64 10, .int .i64 0, .int .i64 0, .int .i64 1, .int .i64 0, .int .i64 1, .int .i64 10, .int .i64 10, .int .i64 0, .int .i64 0, .int .i64 2, .int .i64 0, .int .i64 2, .int .i64 10, .int .i64 10, .int .i64 0, .int .i64 0] 42)).alloc (.cells #[.int .i64 1, .int .i64 2, .int .i64 0, .int .i64 2, .int .i64 3, .int .i64 0] 46)) := (Below.refl _ _).alloc (Nat.le_refl _) _
  have h4 : Below (((w.alloc (.cells #[.int .i64 10, .int .i64 10] 26)).alloc (.cells #[.int .i64 0, .int .i64 (-1), .int .i64 1, .int .i64 10, .int .i64 10, .int .i64 0, .int .i64 0, .int .i64 1, .int .i64 0, .int .i64 1, .int .i64 10, .int .i64 10, .int .i64 0, .int .i64 0, .int .i64 2, .int .i64 0, .int .i64 2, .int .i64 10, .int .i64 10, .int .i64 0, .int .i64 0] 42)).alloc (.cells #[.int .i64 1, .int .i64 2, .int .i64 0, .int .i64 2, .int .i64 3, .int .i64 0] 46)).heap.size (((w.alloc (.cells #[.int .i64 10, .int .i64 10] 26)).alloc (.cells #[.int .i64 0, .int .i64 (-1), .int .i64 1, .int .i64 10, .int .i64 10, .int .i64 0, .int .i64 0, .int .i64 1, .int .i64 0, .int .i64 1, .int .i64 10, .int .i64 10, .int .i64 0, .int .i64 0, .int .i64 2, .int .i64 0, .int .i64 2, .int .i64 10, .int .i64 10, .int .i64 0, .int .i64 0] 42)).alloc (.cells #[.int .i64 1, .int .i64 2, .int .i64 0, .int .i64 2, .int .i64 3, .int .i64 0] 46)) ((((w.alloc (.cells #[.int .i64 10, .int .i64 10] 26)).alloc (.cells #[.int .i64 0, .int .i64 (-1), .int .i64 1, .int .i64 10, .int .i64 10, .int .i64 0, .int .i64 0, .int .i64 1, .int .i64 0, .int .i64 1, .int .i64 10, .int .i64 10, .int .i64 0, .int .i64 0, .int .i64 2, .int .i64 0, .int .i64 2, .int .i64 10, .int .i64 10, .int .i64 0, .int .i64 0] 42)).alloc (.cells #[.int .i64 1, .int .i64 2, .int .i64 0, .int .i64 2, .int .i64 3, .int .i64 0] 46)).alloc (.cells #[.int .i64 1, .int .i64 2] 3)) := (Below.refl _ _).alloc (Nat.le_refl _) _
  have hq : HoldsQ ((w.alloc (.cells #[.int .i64 10, .int .i64 10] 26)).alloc (.cells #[.int .i64 0, .int .i64 (-1), .int .i64 1, .int .i64 10, .int .i64 10, .int .i64 0, .int .i64 0, .int .i64 1, .int .i64 0, .int .i64 1, .int .i64 10, .int .i64 10, .int .i64 0, .int .i64 0, .int .i64 2, .int .i64 0, .int .i64 2, .int .i64 10, .int .i64 10, .int .i64 0, .int .i64 0] 42)) (some ⟨(w.alloc (.cells #[.int .i64 10, .int .i64 10] 26)).heap.size, 0, none⟩) 3 3 l3 := lit_holds Qu.cs_len (w.alloc (.cells #[.int .i64 10, .int .i64 10] 26)) _ l3 _ rfl (by decide)
  have hu : HoldsU (((w.alloc (.cells #[.int .i64 10, .int .i64 10] 26)).alloc (.cells #[.int .i64 0, .int .i64 (-1), .int .i64 1, .int .i64 10, .int .i64 10, .int .i64 0, .int .i64 0, .int .i64 1, .int .i64 0, .int .i64 1, .int .i64 10, .int .i64 10, .int .i64 0, .int .i64 0, .int .i64 2, .int .i64 0, .int .i64 2, .int .i64 10, .int .i64 10, .int .i64 0, .int .i64 0] 42)).alloc (.cells #[.int .i64 1, .int .i64 2, .int .i64 0, .int .i64 2, .int .i64 3, .int .i64 0] 46)) (some ⟨((w.alloc (.cells #[.int .i64 10, .int .i64 10] 26)).alloc (.cells #[.int .i64 0, .int .i64 (-1), .int .i64 1, .int .i64 10, .int .i64 10, .int .i64 0, .int .i64 0, .int .i64 1, .int .i64 0, .int .i64 1, .int .i64 10, .int .i64 10, .int .i64 0, .int .i64 0, .int .i64 2, .int .i64 0, .int .i64 2, .int .i64 10, .int .i64 10, .int .i64 0, .int .i64 0] 42)).heap.size, 0, none⟩) 2 2 us2 := lit_holds Us.cs_len ((w.alloc (.cells #[.int .i64 10, .int .i64 10] 26)).alloc (.cells #[.int .i64 0, .int .i64 (-1), .int .i64 1, .int .i64 10, .int .i64 10, .int .i64 0, .int .i64 0, .int .i64 1, .int .i64 0, .int .i64 1, .int .i64 10, .int .i64 10, .int .i64 0, .int .i64 0, .int .i64 2, .int .i64 0, .int .i64 2, .int .i64 10, .int .i64 10, .int .i64 0, .int .i64 0] 42)) _ us2 _ rfl (by decide)
  have hn : HoldsN ((((w.alloc (.cells #[.int .i64 10, .int .i64 10] 26)).alloc (.cells #[.int .i64 0, .int .i64 (-1), .int .i64 1, .int .i64 10, .int .i64 10, .int .i64 0, .int .i64 0, .int .i64 1, .int .i64 0, .int .i64 1, .int .i64 10, .int .i64 10, .int .i64 0, .int .i64 0, .int .i64 2, .int .i64 0, .int .i64 2, .int .i64 10, .int .i64 10, .int .i64 0, .int .i64 0] 42)).alloc (.cells #[.int .i64 1, .int .i64 2, .int .i64 0, .int .i64 2, .int .i64 3, .int .i64 0] 46)).alloc (.cells #[.int .i64 1, .int .i64 2] 3)) (some ⟨(((w.alloc (.cells #[.int .i64 10, .int .i64 10] 26)).alloc (.cells #[.int .i64 0, .int .i64 (-1), .int .i64 1, .int .i64 10, .int .i64 10, .int .i64 0, .int .i64 0, .int .i64 1, .int .i64 0, .int .i64 1, .int .i64 10, .int .i64 10, .int .i64 0, .int .i64 0, .int .i64 2, .int .i64 0, .int .i64 2, .int .i64 10, .int .i64 10, .int .i64 0, .int .i64 0] 42)).alloc (.cells #[.int .i64 1, .int .i64 2, .int .i64 0, .int .i64 2, .int .i64 3, .int .i64 0] 46)).heap.size, 0, none⟩) 2 2 [1, 2] := lit_holds encN_len (((w.alloc (.cells #[.int .i64 10, .int .i64 10] 26)).alloc (.cells #[.int .i64 0, .int .i64 (-1), .int .i64 1, .int .i64 10, .int .i64 10, .int .i64 0, .int .i64 0, .int .i64 1, .int .i64 0, .int .i64 1, .int .i64 10, .int .i64 10, .int .i64 0, .int .i64 0, .int .i64 2, .int .i64 0, .int .i64 2, .int .i64 10, .int .i64 10, .int .i64 0, .int .i64 0] 42)).alloc (.cells #[.int .i64 1, .int .i64 2, .int .i64 0, .int .i64 2, .int .i64 3, .int .i64 0] 46)) _ [1, 2] _ rfl (by decide)
  have s1 : (w.alloc (.cells #[.int .i64 10, .int .i64 10] 26)).heap.size = w.heap.size + 1 := by simp
  have s2 : ((w.alloc (.cells #[.int .i64 10, .int .i64 10] 26)).alloc (.cells #[.int .i64 0, .int .i64 (-1), .int .i64 1, .int .i64 10, .int .i64 10, .int .i64 0, .int .i64 0, .int .i64 1, .int .i64 0, .int .i64 1, .int .i64 10, .int .i64 10, .int .i64 0, .int .i64 0, .int .i64 2, .int .i64 0, .int .i64 2, .int .i64 10, .int .i64 10, .int .i64 0, .int .i64 0] 42)).heap.size = w.heap.size + 1 + 1 := by simp
  have s3 : (((w.alloc (.cells #[.int .i64 10, .int .i64 10] 26)).alloc (.cells #[.int .i64 0, .int .i64 (-1), .int .i64 1, .int .i64 10, .int .i64 10, .int .i64 0, .int .i64 0, .int .i64 1, .int .i64 0, .int .i64 1, .int .i64 10, .int .i64 10, .int .i64 0, .int .i64 0, .int .i64 2, .int .i64 0, .int .i64 2, .int .i64 10, .int .i64 10, .int .i64 0, .int .i64 0] 42)).alloc (.cells #[.int .i64 1, .int .i64 2, .int .i64 0, .int .i64 2, .int .i64 3, .int .i64 0] 46)).heap.size = w.heap.size + 1 + 1 + 1 := by simp
  have B34 := h3.trans (h4.mono h3.size)
  have B24 := h2.trans (B34.mono h2.size)
  have B4 := hid (h1.trans (B24.mono h1.size))
  have m0 : (w.alloc (.cells #[.int .i64 10, .int .i64 10] 26)).cell? ⟨w.heap.size, 0, none⟩ = some (.int .i64 10) := by simp [go_sem]
  have m1 : (w.alloc (.cells #[.int .i64 10, .int .i64 10] 26)).cell? ⟨w.heap.size, 1, none⟩ = some (.int .i64 10) := by simp [go_sem]
  have m0a := keepc B24 m0
  have m1a := keepc B24 m1
  have QH := hid (hq.below B34)
  have UH := hid (hu.below h4)
  have NH := hid hn
  rw [s1] at QH
  rw [s2] at UH
  rw [s3] at NH
  have OK : ∀ q ∈ l3, q.ok := by unfold l3 Qu.ok I64; decide
  have UI : ∀ u ∈ us2, I64 u.qu := by unfold us2 I64; decide
  have WI : ∀ x ∈ ([1, 2] : List Int), I64 x := by unfold I64; decide
  have M0 := hid m0a
  have M1 := hid m1a
  have x0 := keepc ((h2.trans (h3.mono h2.size))) m0
  have x1 := keepc ((h2.trans (h3.mono h2.size))) m1
  have CH := hid (choose_any _ 3 3 l3 _ 2 2 us2 _ 2 2 [1, 2] 10 10 ((((w.alloc (.cells #[.int .i64 10, .int .i64 10] 26)).alloc (.cells #[.int .i64 0, .int .i64 (-1), .int .i64 1, .int .i64 10, .int .i64 10, .int .i64 0, .int .i64 0, .int .i64 1, .int .i64 0, .int .i64 1, .int .i64 10, .int .i64 10, .int .i64 0, .int .i64 0, .int .i64 2, .int .i64 0, .int .i64 2, .int .i64 10, .int .i64 10, .int .i64 0, .int .i64 0] 42)).alloc (.cells #[.int .i64 1, .int .i64 2, .int .i64 0, .int .i64 2, .int .i64 3, .int .i64 0] 46)).alloc (.cells #[.int .i64 1, .int .i64 2] 3)) QH.out OK UH.out UI NH.out WI)
  rw [l3_choose, l3_read] at CH
  clear hq hu hn s1 s2 s3 h1 h2 h3 h4 B34 B24 m0 m1 m0a m1a
  go_enter Try.func11, Try.ntmps11
  go_wp2_with fail
  refine CH.out.mono ?_
  rintro e w5 ⟨rfl, b5⟩
  have B5 := hid (B4.out.trans (b5.mono B4.out.size))
  have k5 : Below w5.heap.size w5 (w5.alloc (.cells #[.int .i64 1, .int .i64 2] 3)) := (Below.refl _ _).alloc (Nat.le_refl _) _
  have B6 := hid (B5.out.trans (k5.mono B5.out.size))
  have q6 := (QH.out.below b5).below k5
  have u6 := (UH.out.below b5).below k5
  have n6 : HoldsN (w5.alloc (.cells #[.int .i64 1, .int .i64 2] 3)) (some ⟨w5.heap.size, 0, none⟩) 2 2 [1, 2] := lit_holds encN_len w5 _ [1, 2] _ rfl (by decide)
  have y0 := keepc k5 (keepc b5 M0.out)
  have y1 := keepc k5 (keepc b5 M1.out)
  have OR := hid (order_yes _ 3 3 l3 _ 2 2 us2 _ 2 2 [1, 2] 10 10 (w5.alloc (.cells #[.int .i64 1, .int .i64 2] 3)) q6 OK u6 UI n6 WI l3_read)
  clear b5 k5 q6 u6 n6 CH x0 x1
  go_wp2_with fail
  refine OR.out.mono ?_
  rintro e w7 ⟨v7, rfl, o7, b7⟩
  have o8 : OwnN (w5.alloc (.cells #[.int .i64 1, .int .i64 2] 3)).heap.size w7 v7 2 [2, 1] := by
    have h := o7
    rw [show ([1, 2] : List Int).length = 2 from rfl, l3_order] at h
    exact h
  obtain ⟨a7, c7, rfl⟩ := o8.form
  have B7 := hid (B6.out.trans (b7.mono B6.out.size))
  have k7 : Below w7.heap.size w7 (w7.alloc (.cells #[.int .i64 2, .int .i64 1] 3)) := (Below.refl _ _).alloc (Nat.le_refl _) _
  have B8 := hid (B7.out.trans (k7.mono B7.out.size))
  have H7 := hid ((o8.holds encN_len).below k7)
  have L7 := hid (lit_holds encN_len w7 3 [2, 1] #[.int .i64 2, .int .i64 1] rfl (by decide))
  have IA := hid (ints_any a7 (some ⟨w7.heap.size, 0, none⟩) 2 c7 2 [2, 1] (w7.alloc (.cells #[.int .i64 2, .int .i64 1] 3)) H7.out L7.out (by omega))
  clear o7 o8 b7 k7 OR y0 y1
  go_wp2_with fail
  refine IA.out.mono ?_
  rintro e w8 ⟨rfl, b8⟩
  have B9 := hid (B8.out.trans (b8.mono B8.out.size))
  go_wp2
  go_ret
  exact ⟨rfl, B9.out⟩

/-! ### One leaf alone -/
theorem bst_some {l : List Qu} {us : List Us} {tc tm : Int} {f : Int → Int} {p : Int} : ∀ {k c : Nat}, c < k → (qa l c).par = p → f (qa l c).id ≠ 0 → bstI l us tc tm f p k ≠ -1 := by
  intro k
  induction k with
  | zero => intro c h; omega
  | succ k ih =>
    intro c hc hp hf
    unfold bstI
    by_cases e : c = k
    · subst e
      rw [if_pos ⟨hp, hf⟩]
      split
      · omega
      · split
        · omega
        · assumption
    · have h1 := ih (by omega) hp hf
      by_cases hc2 : (qa l k).par = p ∧ f (qa l k).id ≠ 0
      · rw [if_pos hc2, if_neg h1]
        by_cases hc3 : cmpAt l us tc tm k (bstI l us tc tm f p k).toNat < 0
        · rw [if_pos hc3]; omega
        · rw [if_neg hc3]; exact h1
      · rw [if_neg hc2]; exact h1
theorem desc_one {l : List Qu} {us : List Us} {tc tm : Int} {f : Int → Int} (hF : Form l) {P : Nat} (hP : P < l.length) (hl : leafB l (qa l P).id = true) (hf : ∀ i, i < l.length → (f (qa l i).id ≠ 0 ↔ i ∈ pth l P)) : ∀ m h, P - h = m → h ∈ pth l P → desc l us tc tm f h = P := by
  intro m
  induction m using Nat.strongRecOn with
  | _ m ih =>
    intro h hm hh
    have hle := pth_le P h hh
    have hhl : h < l.length := by omega
    rcases bst_form l us tc tm f (qa l h).id l.length with hn | ⟨b, hb, hbe, hbp, hbf⟩
    · rw [desc_stop hn]
      by_cases e : h = P
      · exact e
      · exfalso
        have hw := way_child hF hhl 1 P hP
        rw [if_pos ⟨hh, e⟩] at hw
        have : ∃ k, k < l.length ∧ (qa l k).par = (qa l h).id ∧ k ∈ pth l P := by
          refine Classical.byContradiction (fun hne => ?_)
          rw [sumI_zero (fun k hk => if_neg (fun hc => hne ⟨k, hk, hc⟩))] at hw
          cases hw
        obtain ⟨k, hk, hkp, hkm⟩ := this
        exact bst_some hk hkp ((hf k hk).2 hkm) hn
    · have hbm := (hf b hb).1 hbf
      have hst := desc_step hF hhl hb hbe hbp
      have hbl := pth_le P b hbm
      rw [hst.2]
      exact ih (P - b) (by omega) b rfl hbm
theorem one_turn {l : List Qu} {us : List Us} {tc tm id : Int} (hE : readE l us [id] tc tm = 0) : chooseR l us [id] tc tm = id := by
  obtain ⟨hS, ht, _, _, hth, hlf⟩ := readE_zero hE
  have hC := (sumsE_zero hS).1
  have hF := (chkE_ok.1 hC).2.1
  have hx : hasQ l id = true := by simpa [allThere] using hth
  have hP : pl l id < l.length := of_decide_eq_true hx
  have hid' : (qa l (pl l id)).id = id := pl_id hP
  have hleaf : leafB l (qa l (pl l id)).id = true := by
    have h1 : hasN (leavesR l) id = true := by simpa [allLeaf] using hlf
    rw [hid']
    unfold leavesR at h1
    rw [if_pos hC, hasN_iff] at h1
    unfold idsAt leafs at h1
    obtain ⟨i, hi, e⟩ := List.mem_map.1 h1
    have := (List.mem_filter.1 hi).2
    rw [← e]
    simpa using this
  have hu : upR l id = (pth l (pl l id)).map (fun i => (qa l i).id) := by
    unfold upR
    rw [if_pos]
    unfold thereE
    rw [if_neg (by rw [hC]; decide), if_neg (by rw [hx]; decide)]
  have hf : ∀ i, i < l.length → (waitF l [id] (qa l i).id ≠ 0 ↔ i ∈ pth l (pl l id)) := fun i hi => by
    unfold waitF addC
    rw [List.flatMap_cons, List.flatMap_nil, List.append_nil, hu]
    have : 0 + 1 * ((((pth l (pl l id)).map (fun i => (qa l i).id)).count (qa l i).id : Nat) : Int) ≠ 0 ↔ (qa l i).id ∈ (pth l (pl l id)).map (fun i => (qa l i).id) := by
      rw [← List.count_pos_iff]; omega
    rw [this, List.mem_map]
    constructor
    · rintro ⟨j, hj, e⟩
      have hjl := pth_ltR hP hj
      have h1 := hF.pl hi
      rw [← e, hF.pl hjl] at h1
      rw [← h1]; exact hj
    · intro h; exact ⟨i, h, rfl⟩
  unfold chooseR
  rw [if_pos hE, desc_one hF hP hleaf hf _ 0 rfl (root_way hF _ hP), hid']

end Go.Proofs.Ytglifgnaecbniaa

namespace Go.Proofs.Ytglifgnaecbniaa
open Go.RowKit Go.Deep Go.Maps Go.Shelf
set_option linter.unusedVariables false
set_option linter.unusedSimpArgs false

theorem rise_pair : ∀ {l : List Int}, riseB l = true ↔ l.Pairwise (· < ·) := by
  intro l
  induction l with
  | nil => simp [riseB]
  | cons x r ih =>
    cases r with
    | nil => simp [riseB]
    | cons y r =>
      unfold riseB
      rw [Bool.and_eq_true, decide_eq_true_eq, ih, List.pairwise_cons (a := x)]
      constructor
      · rintro ⟨h1, h2⟩
        refine ⟨fun z hz => ?_, h2⟩
        rcases List.mem_cons.1 hz with rfl | hz
        · exact h1
        · have := (List.pairwise_cons.1 h2).1 z hz; omega
      · rintro ⟨h1, h2⟩
        exact ⟨h1 y (List.mem_cons_self ..), h2⟩
/-- Without one. -/
def wout (ws : List Int) (b : Int) : List Int := ws.filter (fun x => decide (x ≠ b))
theorem count_wout {l : List Qu} {b x : Int} : ∀ {ws : List Int}, ws.Pairwise (· < ·) → b ∈ ws → (ws.flatMap (upR l)).count x = ((wout ws b).flatMap (upR l)).count x + (upR l b).count x := by
  intro ws
  induction ws with
  | nil => intro _ h; cases h
  | cons y r ih =>
    intro hp hb
    have hp2 := List.pairwise_cons.1 hp
    rw [List.flatMap_cons, List.count_append]
    by_cases e : y = b
    · subst e
      have hr : wout (y :: r) y = r := by
        unfold wout
        rw [List.filter_cons_of_neg (by simp), List.filter_eq_self]
        intro z hz
        have := hp2.1 z hz
        simp; omega
      rw [hr]; omega
    · have hbr : b ∈ r := by
        rcases List.mem_cons.1 hb with h | h
        · exact absurd h.symm e
        · exact h
      have hr : wout (y :: r) b = y :: wout r b := by unfold wout; rw [List.filter_cons_of_pos (by simpa using e)]
      rw [hr, List.flatMap_cons, List.count_append, ih hp2.2 hbr]; omega
theorem wout_len {b : Int} : ∀ {ws : List Int} {m : Nat}, ws.Pairwise (· < ·) → b ∈ ws → ws.length = m + 1 → (wout ws b).length = m := by
  intro ws
  induction ws with
  | nil => intro m _ h; cases h
  | cons y r ih =>
    intro m hp hb hm
    have hp2 := List.pairwise_cons.1 hp
    simp only [List.length_cons] at hm
    by_cases e : y = b
    · subst e
      have hr : wout (y :: r) y = r := by
        unfold wout
        rw [List.filter_cons_of_neg (by simp), List.filter_eq_self]
        intro z hz
        have := hp2.1 z hz
        simp; omega
      rw [hr]; omega
    · have hbr : b ∈ r := by
        rcases List.mem_cons.1 hb with h | h
        · exact absurd h.symm e
        · exact h
      have hr : wout (y :: r) b = y :: wout r b := by unfold wout; rw [List.filter_cons_of_pos (by simpa using e)]
      obtain ⟨k, hk⟩ : ∃ k, r.length = k + 1 := by
        cases r with
        | nil => cases hbr
        | cons z r => exact ⟨_, rfl⟩
      rw [hr, List.length_cons, ih hp2.2 hbr hk]; omega
theorem wait_wout {l : List Qu} {b : Int} {ws : List Int} (hp : ws.Pairwise (· < ·)) (hb : b ∈ ws) : addC (waitF l ws) (-1) (upR l b) = waitF l (wout ws b) := by
  funext x
  unfold waitF addC
  have := count_wout (l := l) (x := x) hp hb
  dsimp only
  omega
/-- The descent ends where somebody waits, and nobody below. -/
theorem desc_end {l : List Qu} {us : List Us} {tc tm : Int} {f : Int → Int} (hF : Form l) : ∀ m h, l.length - h = m → h < l.length → f (qa l h).id ≠ 0 → desc l us tc tm f h < l.length ∧ f (qa l (desc l us tc tm f h)).id ≠ 0 ∧ bstI l us tc tm f (qa l (desc l us tc tm f h)).id l.length = -1 := by
  intro m
  induction m using Nat.strongRecOn with
  | _ m ih =>
    intro h hm hh hf
    rcases bst_form l us tc tm f (qa l h).id l.length with hn | ⟨b, hb, hbe, hbp, hbf⟩
    · rw [desc_stop hn]; exact ⟨hh, hf, hn⟩
    · have hst := desc_step hF hh hb hbe hbp
      rw [hst.2]
      exact ih (l.length - b) (by omega) b rfl hb hbf
theorem wait_pos {l : List Qu} {ws : List Int} {x : Int} : waitF l ws x ≠ 0 ↔ ∃ y ∈ ws, x ∈ upR l y := by
  unfold waitF addC
  have : (0 : Int) + 1 * ((ws.flatMap (upR l)).count x : Int) ≠ 0 ↔ x ∈ ws.flatMap (upR l) := by rw [← List.count_pos_iff]; omega
  dsimp only
  rw [this, List.mem_flatMap]
theorem up_mem {l : List Qu} (hC : chkE l = 0) {y : Int} (hy : hasQ l y = true) {i : Nat} (hi : i < l.length) : (qa l i).id ∈ upR l y ↔ i ∈ pth l (pl l y) := by
  have hF := (chkE_ok.1 hC).2.1
  have hP : pl l y < l.length := of_decide_eq_true hy
  have hu : upR l y = (pth l (pl l y)).map (fun i => (qa l i).id) := by
    unfold upR
    rw [if_pos]
    unfold thereE
    rw [if_neg (by rw [hC]; decide), if_neg (by rw [hy]; decide)]
  rw [hu, List.mem_map]
  constructor
  · rintro ⟨j, hj, e⟩
    have hjl := pth_ltR hP hj
    have h1 := hF.pl hi
    rw [← e, hF.pl hjl] at h1
    rw [← h1]; exact hj
  · intro h; exact ⟨i, h, rfl⟩
/-- Whose turn it is wants something. -/
theorem turn_mem {l : List Qu} {us : List Us} {tc tm : Int} {ws : List Int} (hE : readE l us ws tc tm = 0) : (qa l (desc l us tc tm (waitF l ws) 0)).id ∈ ws := by
  obtain ⟨hS, ht, hr, h0, hth, hlf⟩ := readE_zero hE
  have hC := (sumsE_zero hS).1
  have hF := (chkE_ok.1 hC).2.1
  have hall : ∀ y ∈ ws, hasQ l y = true := by unfold allThere at hth; rwa [List.all_eq_true] at hth
  obtain ⟨y, hy⟩ : ∃ y, y ∈ ws := by
    cases ws with
    | nil => simp at h0
    | cons y r => exact ⟨y, List.mem_cons_self ..⟩
  have hroot : waitF l ws (qa l 0).id ≠ 0 := wait_pos.2 ⟨y, hy, (up_mem hC (hall y hy) hF.1).2 (root_way hF _ (of_decide_eq_true (hall y hy)))⟩
  obtain ⟨h1, h2, h3⟩ := desc_end (us := us) (tc := tc) (tm := tm) hF _ 0 rfl hF.1 hroot
  generalize desc l us tc tm (waitF l ws) 0 = P at *
  obtain ⟨x, hx, hxu⟩ := wait_pos.1 h2
  have hxP : pl l x < l.length := of_decide_eq_true (hall x hx)
  have hPm := (up_mem hC (hall x hx) h1).1 hxu
  by_cases e : P = pl l x
  · rw [e, pl_id hxP]; exact hx
  · exfalso
    have hw := way_child hF h1 1 (pl l x) hxP
    rw [if_pos ⟨hPm, e⟩] at hw
    have : ∃ k, k < l.length ∧ (qa l k).par = (qa l P).id ∧ k ∈ pth l (pl l x) := by
      refine Classical.byContradiction (fun hne => ?_)
      rw [sumI_zero (fun k hk => if_neg (fun hc => hne ⟨k, hk, hc⟩))] at hw
      cases hw
    obtain ⟨k, hk, hkp, hkm⟩ := this
    exact bst_some hk hkp (wait_pos.2 ⟨x, hx, (up_mem hC (hall x hx) hk).2 hkm⟩) h3
/-- What is left is right still. -/
theorem read_wout {l : List Qu} {us : List Us} {tc tm b : Int} {ws : List Int} (hE : readE l us ws tc tm = 0) (hn : (wout ws b).length ≠ 0) : readE l us (wout ws b) tc tm = 0 := by
  obtain ⟨hS, ht, hr, h0, hth, hlf⟩ := readE_zero hE
  have a : riseB (wout ws b) = true := rise_pair.2 ((rise_pair.1 hr).filter _)
  have c : allThere l (wout ws b) = true := by
    unfold allThere at *
    rw [List.all_eq_true] at *
    exact fun x hx => hth x (List.mem_filter.1 hx).1
  have d : allLeaf l (wout ws b) = true := by
    unfold allLeaf at *
    rw [List.all_eq_true] at *
    exact fun x hx => hlf x (List.mem_filter.1 hx).1
  unfold readE
  rw [if_neg (by rw [hS]; decide), if_neg (by rw [ht]; decide), if_neg (by rw [a]; decide), if_neg hn, if_neg (by rw [c]; decide), if_neg (by rw [d]; decide)]
/-- Behind the first turn. -/
theorem fAt_wout {l : List Qu} {us : List Us} {tc tm : Int} {ws : List Int} (hE : readE l us ws tc tm = 0) : ∀ k, fAt l us ws tc tm (k + 1) = fAt l us (wout ws (chooseR l us ws tc tm)) tc tm k := by
  have hc : chooseR l us ws tc tm = (qa l (desc l us tc tm (waitF l ws) 0)).id := by unfold chooseR; rw [if_pos hE]
  intro k
  induction k with
  | zero =>
    show addC (waitF l ws) (-1) (upR l (qa l (desc l us tc tm (waitF l ws) 0)).id) = waitF l (wout ws (chooseR l us ws tc tm))
    rw [hc]
    exact wait_wout (rise_pair.1 (readE_zero hE).2.2.1) (turn_mem hE)
  | succ k ih =>
    show addC (fAt l us ws tc tm (k + 1)) (-1) (upR l (qa l (desc l us tc tm (fAt l us ws tc tm (k + 1)) 0)).id) = _
    rw [ih]
    rfl
theorem ord_wout {l : List Qu} {us : List Us} {tc tm : Int} {ws : List Int} (hE : readE l us ws tc tm = 0) (k : Nat) : ordTo l us ws tc tm (k + 1) = chooseR l us ws tc tm :: ordTo l us (wout ws (chooseR l us ws tc tm)) tc tm k := by
  unfold ordTo
  rw [List.range_succ_eq_map, List.map_cons, List.map_map]
  congr 1
  · unfold chooseR turnAt; rw [if_pos hE]; rfl
  · apply List.map_congr_left
    intro i _
    show turnAt l us ws tc tm (i + 1) = _
    unfold turnAt
    rw [fAt_wout hE]

end Go.Proofs.Ytglifgnaecbniaa

namespace Go.Proofs.Ytglifgnaecbniaa
open Go.RowKit Go.Deep Go.Maps Go.Shelf
set_option linter.unusedVariables false
set_option linter.unusedSimpArgs false

theorem sok_at {l : List Qu} {us : List Us} {tc tm : Int} (hS : sumsE l us = 0) (ht : okv (tc, tm) = true) {a : Nat} (ha : a < l.length) : sok tc tm (vecAt l us a) (qa l a).wt := by
  obtain ⟨hC, hf⟩ := sumsE_zero hS
  have hA := arg_at (chkE_ok.1 hC).2.2.1 (qa_mem ha)
  have hw : 1 ≤ (qa l a).wt ∧ (qa l a).wt ≤ 1048576 := by simpa [okw] using hA.1
  unfold fitsB at hf
  rw [List.all_eq_true] at hf
  exact ⟨hf a (by simpa using ha), hw.1, ht⟩
theorem cmp_turn (l : List Qu) (us : List Us) (tc tm : Int) (a b : Nat) : cmpAt l us tc tm b a = -cmpAt l us tc tm a b := lev_turn _ _ _ _ _ _ _ _
theorem cmp_self (l : List Qu) (us : List Us) (tc tm : Int) (a : Nat) : cmpAt l us tc tm a a = 0 := by have := cmp_turn l us tc tm a a; omega
theorem cmp_trans {l : List Qu} {us : List Us} {tc tm : Int} (hS : sumsE l us = 0) (ht : okv (tc, tm) = true) {a b c : Nat} (ha : a < l.length) (hb : b < l.length) (hc : c < l.length) (h1 : cmpAt l us tc tm a b ≤ 0) (h2 : cmpAt l us tc tm b c ≤ 0) : cmpAt l us tc tm a c ≤ 0 :=
  lev_trans (sok_at hS ht ha) (sok_at hS ht hb) (sok_at hS ht hc) h1 h2
/-- The best one is the least, and the first of those. -/
theorem bst_least {l : List Qu} {us : List Us} {tc tm : Int} {f : Int → Int} {p : Int} (hS : sumsE l us = 0) (ht : okv (tc, tm) = true) : ∀ k, k ≤ l.length → ∀ b : Nat, bstI l us tc tm f p k = (b : Int) → ∀ c, c < k → (qa l c).par = p → f (qa l c).id ≠ 0 → 0 ≤ cmpAt l us tc tm c b ∧ (cmpAt l us tc tm c b = 0 → b ≤ c) := by
  intro k
  induction k with
  | zero => intro _ b _ c hc; omega
  | succ k ih =>
    intro hk b hb c hc hp hf
    unfold bstI at hb
    by_cases hq : (qa l k).par = p ∧ f (qa l k).id ≠ 0
    · rw [if_pos hq] at hb
      by_cases hn : bstI l us tc tm f p k = -1
      · rw [if_pos hn] at hb
        have e : k = b := by omega
        subst e
        rcases Nat.lt_or_ge c k with h | h
        · exact absurd hn (bst_some h hp hf)
        · have e : c = k := by omega
          subst e
          rw [cmp_self]; exact ⟨by omega, fun _ => Nat.le_refl _⟩
      · rw [if_neg hn] at hb
        rcases bst_form l us tc tm f p k with h | ⟨b0, hb0, he, _, _⟩
        · exact absurd h hn
        · rw [he, Int.toNat_natCast] at hb
          by_cases hlt : cmpAt l us tc tm k b0 < 0
          · rw [if_pos hlt] at hb
            have e : k = b := by omega
            subst e
            rcases Nat.lt_or_ge c k with h | h
            · have hI := (ih (by omega) b0 he c h hp hf).1
              have h3 : 0 < cmpAt l us tc tm c k := by
                refine Classical.byContradiction (fun hne => ?_)
                have t := cmp_turn l us tc tm c b0
                have t2 := cmp_trans hS ht (a := b0) (b := c) (c := k) (by omega) (by omega) (by omega) (by omega) (by omega)
                have t3 := cmp_turn l us tc tm b0 k
                omega
              exact ⟨by omega, fun h4 => by omega⟩
            · have e : c = k := by omega
              subst e
              rw [cmp_self]; exact ⟨by omega, fun _ => Nat.le_refl _⟩
          · rw [if_neg hlt] at hb
            have e : b0 = b := by omega
            subst e
            rcases Nat.lt_or_ge c k with h | h
            · exact ih (by omega) b0 he c h hp hf
            · have e : c = k := by omega
              subst e
              exact ⟨by omega, fun _ => by omega⟩
    · rw [if_neg hq] at hb
      rcases Nat.lt_or_ge c k with h | h
      · exact ih (by omega) b hb c h hp hf
      · have e : c = k := by omega
        subst e
        exact absurd ⟨hp, hf⟩ hq
theorem bst_is {l : List Qu} {us : List Us} {tc tm : Int} {f : Int → Int} {p : Int} (hS : sumsE l us = 0) (ht : okv (tc, tm) = true) {b : Nat} (hb : b < l.length) (hp : (qa l b).par = p) (hf : f (qa l b).id ≠ 0) (h : ∀ c, c < l.length → (qa l c).par = p → f (qa l c).id ≠ 0 → 0 ≤ cmpAt l us tc tm c b ∧ (cmpAt l us tc tm c b = 0 → b ≤ c)) : bstI l us tc tm f p l.length = (b : Int) := by
  rcases bst_form l us tc tm f p l.length with hn | ⟨b', hb', he, hp', hf'⟩
  · exact absurd hn (bst_some hb hp hf)
  · have h1 := bst_least hS ht _ (Nat.le_refl _) b' he b hb hp hf
    have h2 := h b' hb' hp' hf'
    have t := cmp_turn l us tc tm b b'
    have e : b = b' := by
      have := h1.2 (by omega)
      have := h2.2 (by omega)
      omega
    rw [he, e]
/-- The best one hangs on the children's own sums alone. -/
theorem bst_same {l : List Qu} {us us' : List Us} {tc tm : Int} {f : Int → Int} {p : Int} (h : ∀ k, k < l.length → (qa l k).par = p → vecAt l us' k = vecAt l us k) : ∀ k, k ≤ l.length → bstI l us' tc tm f p k = bstI l us tc tm f p k := by
  intro k
  induction k with
  | zero => intro _; rfl
  | succ k ih =>
    intro hk
    unfold bstI
    rw [ih (by omega)]
    by_cases hq : (qa l k).par = p ∧ f (qa l k).id ≠ 0
    · rw [if_pos hq, if_pos hq]
      rcases bst_form l us tc tm f p k with h1 | ⟨b, hb, he, hbp, _⟩
      · rw [if_pos h1, if_pos h1]
      · have nn : bstI l us tc tm f p k ≠ -1 := by omega
        rw [if_neg nn, if_neg nn, he, Int.toNat_natCast]
        have e : cmpAt l us' tc tm k b = cmpAt l us tc tm k b := by
          unfold cmpAt
          rw [h k (by omega) hq.1, h b (by omega) hbp]
        rw [e]
    · rw [if_neg hq, if_neg hq]
theorem pth_up {l : List Qu} : ∀ D x y, x ∈ pth l y → y ∈ pth l D → x ∈ pth l D := by
  intro D
  induction D using Nat.strongRecOn with
  | _ D ih =>
    intro x y hx hy
    by_cases h : pl l (qa l D).par < D
    · rw [pth_step h] at hy ⊢
      rcases List.mem_cons.1 hy with e | hy'
      · rw [e, pth_step h] at hx; exact hx
      · exact List.mem_cons_of_mem _ (ih _ h x y hx hy')
    · rw [pth_root h] at hy ⊢
      have e : y = D := by simpa using hy
      rw [e, pth_root h] at hx
      exact hx
theorem pth_chain {l : List Qu} : ∀ D b j, b ∈ pth l D → j ∈ pth l D → j ≤ b → j ∈ pth l b := by
  intro D
  induction D using Nat.strongRecOn with
  | _ D ih =>
    intro b j hb hj hle
    by_cases h : pl l (qa l D).par < D
    · by_cases e : b = D
      · rw [e]; exact hj
      · rw [pth_step h] at hb hj
        rcases List.mem_cons.1 hb with e' | hb'
        · exact absurd e' e
        · have hbl := pth_le _ b hb'
          rcases List.mem_cons.1 hj with e' | hj'
          · omega
          · exact ih _ h b j hb' hj' hle
    · rw [pth_root h] at hb hj
      have e : b = D := by simpa using hb
      have e2 : j = D := by simpa using hj
      rw [e, e2]; exact pth_self _ _
theorem pth_child {l : List Qu} (hF : Form l) {b h : Nat} (hb : b < l.length) (hh : h < l.length) (hp : (qa l b).par = (qa l h).id) : h < b ∧ pth l b = b :: pth l h := by
  have hb0 : b ≠ 0 := fun e0 => by
    subst e0
    have := hF.root.2
    have h1 := hF.id_nonneg hh
    rw [hp] at this; omega
  have hlt := hF.up hb hb0
  have e : pl l (qa l b).par = h := by rw [hp, hF.pl hh]
  rw [e] at hlt
  refine ⟨hlt, ?_⟩
  rw [pth_step (by rw [e]; exact hlt), e]
/-- At each queue on the way the best one was taken. -/
theorem desc_way {l : List Qu} {us : List Us} {tc tm : Int} {f : Int → Int} (hF : Form l) : ∀ m h, l.length - h = m → h < l.length → h ∈ pth l (desc l us tc tm f h) ∧ desc l us tc tm f h < l.length ∧ ∀ j ∈ pth l (desc l us tc tm f h), h < j → bstI l us tc tm f (qa l j).par l.length = (j : Int) := by
  intro m
  induction m using Nat.strongRecOn with
  | _ m ih =>
    intro h hm hh
    rcases bst_form l us tc tm f (qa l h).id l.length with hn | ⟨b, hb, hbe, hbp, hbf⟩
    · rw [desc_stop hn]
      exact ⟨pth_self _ _, hh, fun j hj hlt => absurd (pth_le _ j hj) (by omega)⟩
    · have hst := desc_step hF hh hb hbe hbp
      have hch := pth_child hF hb hh hbp
      rw [hst.2]
      obtain ⟨i1, i2, i3⟩ := ih (l.length - b) (by omega) b rfl hb
      refine ⟨pth_up _ h b (by rw [hch.2]; exact List.mem_cons_of_mem _ (pth_self _ _)) i1, i2, fun j hj hlt => ?_⟩
      rcases Nat.lt_or_ge b j with hbj | hbj
      · exact i3 j hj hbj
      · have := pth_chain _ b j i1 hj hbj
        rw [hch.2] at this
        rcases List.mem_cons.1 this with e | hj'
        · rw [e, hbp, hbe]
        · exact absurd (pth_le _ j hj') (by omega)
/-- Which child of the root stands on a way. -/
theorem pth_top {l : List Qu} (hF : Form l) : ∀ P, P < l.length → ∀ x ∈ pth l P, (qa l x).par = (qa l 0).id → ∃ r, pth l P = r ++ [x, 0] := by
  intro P
  induction P using Nat.strongRecOn with
  | _ P ih =>
    intro hP x hx hp
    have hxl : x < l.length := Nat.lt_of_le_of_lt (pth_le _ x hx) hP
    have hc := pth_child hF hxl hF.1 hp
    have h0 : pth l 0 = [0] := pth_root (by omega)
    by_cases e : x = P
    · subst e
      exact ⟨[], by rw [hc.2, h0]; rfl⟩
    · have hP0 : P ≠ 0 := fun e0 => by
        subst e0
        rw [h0] at hx
        simp at hx
        omega
      have h := hF.up hP hP0
      rw [pth_step h] at hx ⊢
      rcases List.mem_cons.1 hx with e' | hx'
      · exact absurd e' e
      · obtain ⟨r, hr⟩ := ih _ h (by omega) x hx' hp
        exact ⟨P :: r, by rw [hr]; rfl⟩
/-- The last but one of a way is the child of the root on it. -/
theorem pth_two {l : List Qu} (hF : Form l) : ∀ P, P < l.length → 2 ≤ (pth l P).length → ∃ x r, pth l P = r ++ [x, 0] ∧ x < l.length ∧ (qa l x).par = (qa l 0).id := by
  intro P
  induction P using Nat.strongRecOn with
  | _ P ih =>
    intro hP h2
    have h0 : pth l 0 = [0] := pth_root (by omega)
    have hP0 : P ≠ 0 := fun e0 => by subst e0; rw [h0] at h2; simp at h2
    have h := hF.up hP hP0
    rw [pth_step h]
    by_cases e : pl l (qa l P).par = 0
    · refine ⟨P, [], by rw [e, h0]; rfl, hP, ?_⟩
      have := pl_id (l := l) (id := (qa l P).par) (by omega)
      rw [e] at this; exact this.symm
    · have hch : 2 ≤ (pth l (pl l (qa l P).par)).length := by
        rw [pth_step (hF.up (by omega) e)]
        have : 0 < (pth l (pl l (qa l (pl l (qa l P).par)).par)).length := by rw [pth]; simp
        simp; omega
      obtain ⟨x, r, h1, h3, h4⟩ := ih _ h (by omega) hch
      exact ⟨x, P :: r, by rw [h1]; rfl, h3, h4⟩
/-- Who isn't chosen isn't chosen, either, when it uses more. -/
theorem grows {l : List Qu} {us : List Us} {tc tm other mc mm : Int} {ws : List Int} (hE : readE l us ws tc tm = 0) (hE' : readE l (us ++ [⟨other, mc, mm⟩]) ws tc tm = 0)
    {r r' : List Nat} {x x' : Nat} (h1 : pth l (desc l us tc tm (waitF l ws) 0) = r ++ [x, 0]) (h2 : pth l (pl l other) = r' ++ [x', 0]) (hx : x < l.length) (hxp : (qa l x).par = (qa l 0).id) (hx' : x' < l.length) (hxp' : (qa l x').par = (qa l 0).id) (hne : x' ≠ x) :
    desc l (us ++ [⟨other, mc, mm⟩]) tc tm (waitF l ws) 0 = desc l us tc tm (waitF l ws) 0 := by
  obtain ⟨hS, ht, hr, h0, hth, hlf⟩ := readE_zero hE
  obtain ⟨hS', _⟩ := readE_zero hE'
  have hC := (sumsE_zero hS).1
  have hF := (chkE_ok.1 hC).2.1
  have hu := useE_zero (sums_then hS').2
  have hO : pl l other < l.length := of_decide_eq_true hu.1
  have hmore : okv (mc, mm) = true := by unfold okv; simpa using hu.2.2
  obtain ⟨w1, w2, w3⟩ := desc_way (us := us) (tc := tc) (tm := tm) (f := waitF l ws) hF _ 0 rfl hF.1
  have hxm : x ∈ pth l (desc l us tc tm (waitF l ws) 0) := by rw [h1]; simp
  have hx0 := (pth_child hF hx hF.1 hxp).1
  have hbx := w3 x hxm hx0
  rw [hxp] at hbx
  have hxO : ¬ x ∈ pth l (pl l other) := fun h => by
    obtain ⟨r2, e2⟩ := pth_top hF _ hO x h hxp
    rw [h2] at e2
    have := List.append_inj_right' e2 rfl
    simp at this
    exact hne this
  have hsame : ∀ k, ¬ k ∈ pth l (pl l other) → vecAt l (us ++ [⟨other, mc, mm⟩]) k = vecAt l us k := fun k hk => by
    rw [vecAt_more, if_neg hk, if_neg hk]; simp
  have hunder : ∀ k, x ∈ pth l k → vecAt l (us ++ [⟨other, mc, mm⟩]) k = vecAt l us k := fun k hk => hsame k (fun h => hxO (pth_up _ x k hk h))
  have hst := desc_step hF hF.1 hx hbx hxp
  have hxf : waitF l ws (qa l x).id ≠ 0 := by
    rcases bst_form l us tc tm (waitF l ws) (qa l 0).id l.length with hn | ⟨b, _, he, _, hbf⟩
    · rw [hn] at hbx; omega
    · rw [he] at hbx
      have e : b = x := by omega
      rw [← e]; exact hbf
  have hbx' : bstI l (us ++ [⟨other, mc, mm⟩]) tc tm (waitF l ws) (qa l 0).id l.length = (x : Int) := by
    refine bst_is hS' ht hx hxp hxf (fun c hc hcp hcf => ?_)
    have hold := bst_least hS ht _ (Nat.le_refl _) x hbx c hc hcp hcf
    have ex : vecAt l (us ++ [⟨other, mc, mm⟩]) x = vecAt l us x := hsame x hxO
    by_cases hcO : c ∈ pth l (pl l other)
    · have ev : vecAt l (us ++ [⟨other, mc, mm⟩]) c = ((vecAt l us c).1 + mc, (vecAt l us c).2 + mm) := by rw [vecAt_more, if_pos hcO, if_pos hcO]
      have s1 := sok_at hS ht hc
      have s2 := sok_at hS' ht hc
      have s3 := sok_at hS ht hx
      have s2' : sok tc tm ((vecAt l us c).1 + mc, (vecAt l us c).2 + mm) (qa l c).wt := by rw [← ev]; exact s2
      have m1 := lev_more (c := (vecAt l us c).1) (m := (vecAt l us c).2) (d := mc) (k := mm) (x := (qa l c).wt) (p := tc) (q := tm) s1 hmore s2'.1
      have ec : cmpAt l (us ++ [⟨other, mc, mm⟩]) tc tm c x = lev ((vecAt l us c).1 + mc) ((vecAt l us c).2 + mm) (qa l c).wt (vecAt l us x).1 (vecAt l us x).2 (qa l x).wt tc tm := by unfold cmpAt; rw [ev, ex]
      have t1 := cmp_turn l us tc tm c x
      have t2 := lev_turn ((vecAt l us c).1 + mc) ((vecAt l us c).2 + mm) (qa l c).wt (vecAt l us x).1 (vecAt l us x).2 (qa l x).wt tc tm
      have t3 : lev (vecAt l us x).1 (vecAt l us x).2 (qa l x).wt ((vecAt l us c).1 + mc) ((vecAt l us c).2 + mm) (qa l c).wt tc tm ≤ 0 := lev_trans s3 s1 s2' (show cmpAt l us tc tm x c ≤ 0 by omega) m1
      rw [ec]
      refine ⟨by omega, fun h0 => ?_⟩
      have t4 : cmpAt l us tc tm c x ≤ 0 := lev_trans s1 s2' s3 m1 (by omega)
      exact hold.2 (by omega)
    · have ec : cmpAt l (us ++ [⟨other, mc, mm⟩]) tc tm c x = cmpAt l us tc tm c x := by unfold cmpAt; rw [hsame c hcO, ex]
      rw [ec]; exact hold
  have hst' := desc_step hF hF.1 hx hbx' hxp
  have hin : ∀ m h, l.length - h = m → h < l.length → x ∈ pth l h → desc l (us ++ [⟨other, mc, mm⟩]) tc tm (waitF l ws) h = desc l us tc tm (waitF l ws) h := by
    intro m
    induction m using Nat.strongRecOn with
    | _ m ih =>
      intro h hm hh hxh
      have eb := bst_same (us := us) (us' := us ++ [⟨other, mc, mm⟩]) (tc := tc) (tm := tm) (f := waitF l ws) (p := (qa l h).id) (fun k hk hkp => hunder k (by rw [(pth_child hF hk hh hkp).2]; exact List.mem_cons_of_mem _ hxh)) l.length (Nat.le_refl _)
      rcases bst_form l us tc tm (waitF l ws) (qa l h).id l.length with hn | ⟨b, hb, hbe, hbp, hbf⟩
      · rw [desc_stop hn, desc_stop (by rw [eb]; exact hn)]
      · have g1 := desc_step hF hh hb hbe hbp
        have g2 := desc_step hF hh hb (eb.trans hbe) hbp
        rw [g1.2, g2.2]
        exact ih (l.length - b) (by omega) b rfl hb (by rw [(pth_child hF hb hh hbp).2]; exact List.mem_cons_of_mem _ hxh)
  rw [hst.2, hst'.2]
  exact hin _ x rfl hx (pth_self _ _)
end Go.Proofs.Ytglifgnaecbniaa

namespace Go.Proofs.Ytglifgnaecbniaa
open Go.RowKit Go.Deep Go.Maps Go.Shelf
set_option linter.unusedVariables false
set_option linter.unusedSimpArgs false

def wishB (l : List Qu) (ws : List Int) (id : Int) : Bool := ws.any (fun x => hasN (downR l id) x)
theorem any_take_na {ws : List Int} {f : Int → Bool} {k : Nat} (hk : k < ws.length) (h : (ws.take k).any f = false) (ho : f (na ws k) = false) : (ws.take (k + 1)).any f = false := by
  rw [List.take_add_one, na_get hk, List.any_append, h]; simp [ho]
theorem downR_len' (l : List Qu) (id : Int) : (downR l id).length ≤ 64 := by
  unfold downR
  split
  · rename_i h
    unfold idsAt downs
    rw [List.length_map]
    exact filter_len (chkE_ok.1 (thereE_zero h).1).1
  · simp
theorem up_there {l : List Qu} (hC : chkE l = 0) {y : Int} (hy : hasQ l y = true) : thereE l y = 0 := by
  unfold thereE
  rw [if_neg (by rw [hC]; decide), if_neg (by rw [hy]; decide)]
theorem down_mem {l : List Qu} (hC : chkE l = 0) {i : Nat} (hi : i < l.length) {y : Int} (hy : hasQ l y = true) : y ∈ downR l (qa l i).id ↔ i ∈ pth l (pl l y) := by
  have hF := (chkE_ok.1 hC).2.1
  have hP : pl l y < l.length := of_decide_eq_true hy
  have hyi : hasQ l (qa l i).id = true := hasQ_iff.2 ⟨i, hi, rfl⟩
  unfold downR
  rw [if_pos (up_there hC hyi), hF.pl hi]
  unfold idsAt downs
  rw [List.mem_map]
  constructor
  · rintro ⟨j, hj, e⟩
    have h1 := (List.mem_filter.1 hj).2
    have h2 := hF.pl j.2
    rw [e] at h2
    rw [h2]
    simpa using h1
  · intro h
    exact ⟨⟨pl l y, hP⟩, List.mem_filter.2 ⟨List.mem_finRange _, by simpa using h⟩, pl_id hP⟩
/-- A queue waits just where one of want is below it. -/
theorem wish_wait {l : List Qu} {ws : List Int} (hC : chkE l = 0) (hth : allThere l ws = true) {i : Nat} (hi : i < l.length) : wishB l ws (qa l i).id = true ↔ waitF l ws (qa l i).id ≠ 0 := by
  have hall : ∀ y ∈ ws, hasQ l y = true := by unfold allThere at hth; rwa [List.all_eq_true] at hth
  unfold wishB
  rw [wait_pos, List.any_eq_true]
  constructor
  · rintro ⟨x, hx, hh⟩
    rw [hasN_iff] at hh
    exact ⟨x, hx, (up_mem hC (hall x hx) hi).2 ((down_mem hC hi (hall x hx)).1 hh)⟩
  · rintro ⟨x, hx, hh⟩
    exact ⟨x, hx, by rw [hasN_iff]; exact (down_mem hC hi (hall x hx)).2 ((up_mem hC (hall x hx) hi).1 hh)⟩

theorem pth_next {l : List Qu} (hF : Form l) : ∀ P, P < l.length → ∀ k, k + 1 < (pth l P).length → ∃ i j, (pth l P)[k]? = some i ∧ (pth l P)[k + 1]? = some j ∧ i < l.length ∧ j < l.length ∧ (qa l i).par = (qa l j).id := by
  intro P
  induction P using Nat.strongRecOn with
  | _ P ih =>
    intro hP k hk
    have hh : ∀ X, (pth l X)[0]? = some X := fun X => by rw [pth]; rfl
    by_cases h : pl l (qa l P).par < P
    · have hj : pl l (qa l P).par < l.length := by omega
      rw [pth_step h] at hk ⊢
      cases k with
      | zero =>
        refine ⟨P, pl l (qa l P).par, rfl, ?_, hP, hj, (pl_id hj).symm⟩
        rw [List.getElem?_cons_succ]; exact hh _
      | succ k =>
        rw [List.length_cons] at hk
        rw [List.getElem?_cons_succ, List.getElem?_cons_succ]
        exact ih _ h hj k (by omega)
    · rw [pth_root h] at hk
      simp at hk
/-- What the law asks at one step of the way. -/
theorem least_step {l : List Qu} {us : List Us} {ws : List Int} {tc tm : Int} (hE : readE l us ws tc tm = 0) {k : Nat} (hk : k + 1 < (upR l (chooseR l us ws tc tm)).length) :
    ∃ x : Nat, x < l.length ∧ plI l (na (upR l (chooseR l us ws tc tm)) k) = (x : Int) ∧
      ∀ j, j < l.length → (qa l j).par = na (upR l (chooseR l us ws tc tm)) (k + 1) → (qa l j).id ≠ na (upR l (chooseR l us ws tc tm)) k → wishB l ws (qa l j).id = true →
        0 ≤ cmpAt l us tc tm j x ∧ (cmpAt l us tc tm j x = 0 → na (upR l (chooseR l us ws tc tm)) k < (qa l j).id) := by
  obtain ⟨hS, ht, hr, h0, hth, hlf⟩ := readE_zero hE
  have hC := (sumsE_zero hS).1
  have hF := (chkE_ok.1 hC).2.1
  have hc : chooseR l us ws tc tm = (qa l (desc l us tc tm (waitF l ws) 0)).id := by unfold chooseR; rw [if_pos hE]
  obtain ⟨w1, w2, w3⟩ := desc_way (us := us) (tc := tc) (tm := tm) (f := waitF l ws) hF _ 0 rfl hF.1
  have hu : upR l (chooseR l us ws tc tm) = (pth l (desc l us tc tm (waitF l ws) 0)).map (fun i => (qa l i).id) := by
    unfold upR
    rw [if_pos (up_there hC (hasQ_iff.2 ⟨_, w2, hc.symm⟩)), hc, hF.pl w2]
  rw [hu] at hk ⊢
  rw [List.length_map] at hk
  obtain ⟨x, y, hx, hy, hxl, hyl, hp⟩ := pth_next hF _ w2 k hk
  have e1 : na ((pth l (desc l us tc tm (waitF l ws) 0)).map (fun i => (qa l i).id)) k = (qa l x).id := by unfold na; rw [List.getElem?_map, hx]; rfl
  have e2 : na ((pth l (desc l us tc tm (waitF l ws) 0)).map (fun i => (qa l i).id)) (k + 1) = (qa l y).id := by unfold na; rw [List.getElem?_map, hy]; rfl
  rw [e1, e2]
  have hb := hF.id_nonneg hxl
  have hx0 := (pth_child hF hxl hyl hp).1
  have hbx := w3 x (List.mem_of_getElem? hx) (by omega)
  refine ⟨x, hxl, ?_, fun j hj hjp hjn hjw => ?_⟩
  · unfold plI; rw [hF.pl hxl, if_pos hxl]
  · have := bst_least hS ht _ (Nat.le_refl _) x hbx j hj (by rw [hjp, hp]) ((wish_wait hC hth hj).1 hjw)
    refine ⟨this.1, fun h => ?_⟩
    have h2 := this.2 h
    rcases Nat.lt_or_ge x j with h3 | h3
    · exact hF.rise h3 hj
    · exact absurd (by rw [show x = j by omega]) hjn

set_option maxRecDepth 100000 in
set_option maxHeartbeats 2000000 in
theorem wished_any (a : Option Addr) (len cap : Nat) (l : List Qu) (id : Int) (wa : Option Addr) (n wc : Nat) (ws : List Int) (w : World) (h : HoldsQ w a len cap l) (hok : ∀ q ∈ l, q.ok) (hid' : I64 id) (hw : HoldsN w wa n wc ws) :
    Calls Try.prog 21 #[.slice a len cap, .int .i64 id, .slice wa n wc] w fun e w' => e = .returned (.bool (wishB l ws id)) ∧ Below w.heap.size w w' := by
  have HA := hid (down_any a len cap l id w h hok hid')
  have HW := hid hw
  have HL := hid hw.1
  have hcap := hw.2.1
  have hcm := hw.2.2.1
  have RL := downR_len' l id
  clear h hok hw
  go_enter Try.func21, Try.ntmps21
  go_wp2_with fail
  refine HA.out.mono ?_
  rintro e w1 ⟨v1, rfl, o1, b1⟩
  unfold AnsN at o1
  obtain ⟨a1, c1, rfl⟩ := o1.form
  have P1 := hid (o1.holds encN_len)
  have B1 := hid b1
  clear o1 b1 HA
  generalize hlen : (downR l id).length = LN at *
  clear hlen
  generalize thereE l id = CE at *
  go_wp2_with fail
  go_loopw [19] (fun i wr => ∃ k : Nat, k ≤ n ∧ i = .int .i64 k ∧ Hid ((ws.take k).any (fun x => hasN (downR l id) x) = false) ∧ Hid (Below w1.heap.size w1 wr)) (fun i _ => n - (intOf i).toNat)
  case atStart => exact ⟨0, by omega, rfl, by simp [Hid], Below.refl _ _⟩
  case round =>
    obtain ⟨k, hk, rfl, hgo, hB⟩ := hrel
    by_cases hlt : k < n
    · have hlt' : k < ws.length := by rw [HL.out]; exact hlt
      obtain ⟨wb, wo, rfl, R⟩ := (HW.out.below B1.out).rowA (by omega)
      have c0 := keepc hB.out (R k hlt)
      clear R
      have NX := hid (fun h => any_take_na (f := fun x => hasN (downR l id) x) hlt' hgo.out h)
      have NO : Hid (hasN (downR l id) (na ws k) = true → wishB l ws id = true) := fun h => List.any_eq_true.2 ⟨_, na_mem hlt', h⟩
      have BS := hid (fun x => hasN_any a1 LN c1 (downR l id) x wr (P1.out.below hB.out) (by omega))
      have ka : (0 : Int) ≤ (k : Int) := by omega
      have kb : (k : Int) < (n : Int) := by omega
      generalize na ws k = x at *
      cases hx : hasN (downR l id) x
      · have NG := hid (NX.out hx)
        have BX := hid (BS.out x)
        rw [hx] at BX
        clear NX NO BS hx
        go_wp2_with fail
        refine BX.out.mono ?_
        rintro e w2 ⟨rfl, rfl⟩
        go_wp2
        go_roundw
        case rel => exact ⟨k + 1, by omega, by go_num, NG, hB⟩
        case measure => simp [intOf]; omega
      · have EN := hid (NO.out hx)
        have BX := hid (BS.out x)
        rw [hx] at BX
        clear NX NO BS hx
        go_wp2_with fail
        refine BX.out.mono ?_
        rintro e w2 ⟨rfl, rfl⟩
        have B2 := B1.out.trans (hB.out.mono B1.out.size)
        go_wp2
        go_ret
        exact ⟨retb EN.out.symm, B2⟩
    · have EY : Hid (wishB l ws id = false) := by have h := hgo.out; rw [List.take_of_length_le (by rw [HL.out]; omega)] at h; exact h
      have B2 := B1.out.trans (hB.out.mono B1.out.size)
      go_wp2
      go_ret
      exact ⟨retb EY.out.symm, B2⟩

theorem at_any (a : Option Addr) (len cap : Nat) (l : List Qu) (id : Int) (w : World) (h : HoldsQ w a len cap l) :
    Calls Try.prog 20 #[.slice a len cap, .int .i64 id] w fun e w' => e = .returned (.int .i64 (plI l id)) ∧ Below w.heap.size w w' := by
  have PA := hid (place_any a len cap l id w h)
  clear h
  go_enter Try.func20, Try.ntmps20
  go_wp2_with fail
  refine PA.out.mono ?_
  rintro e w1 ⟨rfl, b1⟩
  have B1 := hid b1
  clear b1
  go_wp2
  go_ret
  exact ⟨rfl, B1.out⟩
end Go.Proofs.Ytglifgnaecbniaa
