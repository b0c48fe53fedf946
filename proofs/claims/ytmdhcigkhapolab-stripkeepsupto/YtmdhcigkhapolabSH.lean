/-
  Contracts of strip: ReadInt, ReadBytes, and the document's GetWhole, GetText, at any place of any bytes.
-/
import Derived.Test.YtmdhcigkhapolabSG
namespace Go.Proofs.Ytmdhcigkhapolab
open Go.RowKit Go.Deep
set_option linter.unusedVariables false

theorem rd_next (l : List Int) (p : Int) (h : (rd l p).2.2 = 0) : 0 < l.length ∧ 0 ≤ p ∧ p < (rd l p).2.1 ∧ (rd l p).2.1 ≤ l.length := by
  unfold rd at *
  split at h
  · simp at h
  split at h
  · simp at h
  rw [if_neg (by assumption), if_neg (by assumption)]
  split at h
  · rw [if_pos (by assumption)]; simp only; omega
  rw [if_neg (by assumption)]
  split at h
  · simp at h
  rw [if_neg (by assumption)]
  split at h
  · simp at h
  rw [if_neg (by assumption)]
  split at h
  · simp at h
  · rw [if_neg (by assumption)]; simp only; omega

/-- What is read as a text of bytes: the bytes, the place, the error. -/
def rtB (l : List Int) (p : Int) : List Int := if (rd l p).2.2 ≠ 0 then [] else if 1048576 < (rd l p).1 then [] else if (l.length : Int) - (rd l p).2.1 < (rd l p).1 then [] else (l.drop (rd l p).2.1.toNat).take (rd l p).1.toNat
def rtP (l : List Int) (p : Int) : Int := if (rd l p).2.2 ≠ 0 then (rd l p).2.1 else if 1048576 < (rd l p).1 then p else if (l.length : Int) - (rd l p).2.1 < (rd l p).1 then l.length else (rd l p).2.1 + (rd l p).1
def rtE (l : List Int) (p : Int) : Int := if (rd l p).2.2 ≠ 0 then (rd l p).2.2 else if 1048576 < (rd l p).1 then 3 else if (l.length : Int) - (rd l p).2.1 < (rd l p).1 then 5 else 0

/-- The cells from a place on, so many. -/
theorem holds_mid {w : World} {b off len cap : Nat} {l : List Int} (h : HoldsB w (some ⟨b, off, none⟩) len cap l) (m c : Nat) (hk : m + c ≤ len) (a : Option Addr) (ha : ¬ cap = m → a = some ⟨b, off + m, none⟩) (hn : a ≠ none) : HoldsB w a c (cap - m) ((l.drop m).take c) := by
  obtain ⟨h1, h2, h3, h4, h5, h6, h7⟩ := h
  refine ⟨by simp [h1]; omega, by omega, by omega, by omega, (h5.drop m).take c, fun e => absurd e hn, fun hp => ?_⟩
  obtain ⟨b', off', e, hc⟩ := h7 (by omega)
  cases e
  refine ⟨b, off + m, ha (by omega), fun j hj => ?_⟩
  rw [Nat.add_assoc, hc (m + j) (by omega), List.getElem?_take_of_lt hj, List.getElem?_drop]

theorem holds_empty (w : World) (a : Addr) : HoldsB w (some a) 0 0 [] := ⟨rfl, by omega, by omega, by omega, BB.nil, fun e => by simp at e, fun h => absurd h (by omega)⟩
theorem own_nil (base : Nat) (w : World) : Own base w (.slice none 0 0) 0 [] := ⟨World.ownsRow_nil _ _ _ _, BB.nil⟩
theorem rets {v : Value} {k n : IntKind} {a b x y : Int} (h : x = a) (g : y = b) : Ending.returned (.tuple #[v, .int k a, .int n b]) = .returned (.tuple #[v, .int k x, .int n y]) := by cases h; cases g; rfl

set_option maxHeartbeats 1000000 in
theorem readint_any (a : Option Addr) (len cap : Nat) (l : List Int) (p : Int) (w : World) (h : HoldsB w a len cap l) (hp : I64 p) :
    Calls Try.prog 23 #[.slice a len cap, .int .i64 p] w fun e w' => e = .returned (.tuple #[.int .i64 (zag (rd l p).1), .int .i64 (rd l p).2.1, .int .i64 (rd l p).2.2]) ∧ w = w' := by
  have K := hid (fun w' (e : w' = w) => read_any a len cap l p w' (e ▸ h) hp)
  have b := rd_bd l p h.2.2.2.2.1
  clear h
  generalize (rd l p).1 = x at *
  generalize (rd l p).2.1 = y at *
  generalize (rd l p).2.2 = z at *
  have Z := hid (fun w => inrow_any x b.1 b.2 w)
  generalize zag x = t at *
  go_enter Try.func23, Try.ntmps23
  go_wp2_with fail
  refine (K.out _ rfl).mono ?_
  rintro e w1 ⟨rfl, rfl⟩
  go_wp2_with fail
  refine (Z.out _).mono ?_
  rintro e w1 ⟨rfl, rfl⟩
  go_wp2
  go_ret3
  exact ⟨rfl, rfl⟩

set_option maxHeartbeats 1000000 in
theorem getwhole_any (a : Option Addr) (len cap : Nat) (l : List Int) (p : Int) (w : World) (h : HoldsB w a len cap l) (hp : I64 p) :
    Calls Try.prog 24 #[.slice a len cap, .int .i64 p] w fun e w' => e = .returned (.tuple #[.int .i64 (zag (rd l p).1), .int .i64 (rd l p).2.1, .int .i64 (rd l p).2.2]) ∧ w = w' := by
  have K := hid (fun w' (e : w' = w) => getnum_any a len cap l p w' (e ▸ h) hp)
  have b := rd_bd l p h.2.2.2.2.1
  clear h
  generalize (rd l p).1 = x at *
  generalize (rd l p).2.1 = y at *
  generalize (rd l p).2.2 = z at *
  obtain ⟨b0, b1⟩ := b
  by_cases hn : x % 2 = 1
  · have t1 : (x % 2 == 1) = true := by simp; omega
    have E : Hid (zag x = -(x / 2) - 1) := by unfold Hid zag; rw [if_pos hn]
    clear hn
    go_enter Try.func24, Try.ntmps24
    go_wp2_with fail
    refine (K.out _ rfl).mono ?_
    rintro e w1 ⟨rfl, rfl⟩
    go_wp2
    go_ret3
    exact ⟨ret3 (by rw [E.out]), rfl⟩
  · have t1 : (x % 2 == 1) = false := by simp; omega
    have E : Hid (zag x = x / 2) := by unfold Hid zag; rw [if_neg hn]
    clear hn
    go_enter Try.func24, Try.ntmps24
    go_wp2_with fail
    refine (K.out _ rfl).mono ?_
    rintro e w1 ⟨rfl, rfl⟩
    go_wp2
    go_ret3
    exact ⟨ret3 (by rw [E.out]), rfl⟩

set_option maxRecDepth 100000 in
set_option maxHeartbeats 2000000 in
theorem readbytes_any (a : Option Addr) (len cap : Nat) (l : List Int) (p : Int) (w : World) (h : HoldsB w a len cap l) (hp : I64 p) (hm : len ≤ 140737488355328) :
    Calls Try.prog 25 #[.slice a len cap, .int .i64 p] w fun e w' => ∃ v, e = .returned (.tuple #[v, .int .i64 (rtP l p), .int .i64 (rtE l p)]) ∧ Own w.heap.size w' v (rtB l p).length (rtB l p) ∧ Below w.heap.size w w' := by
  have K := hid (fun w' (e : w' = w) => read_any a len cap l p w' (e ▸ h) hp)
  have b := rd_bd l p h.2.2.2.2.1
  have hnx := rd_next l p
  have EB : rtB l p = if (rd l p).2.2 ≠ 0 then [] else if 1048576 < (rd l p).1 then [] else if (len : Int) - (rd l p).2.1 < (rd l p).1 then [] else (l.drop (rd l p).2.1.toNat).take (rd l p).1.toNat := by unfold rtB; rw [h.1]
  have EP : rtP l p = if (rd l p).2.2 ≠ 0 then (rd l p).2.1 else if 1048576 < (rd l p).1 then p else if (len : Int) - (rd l p).2.1 < (rd l p).1 then (len : Int) else (rd l p).2.1 + (rd l p).1 := by unfold rtP; rw [h.1]
  have EE : rtE l p = if (rd l p).2.2 ≠ 0 then (rd l p).2.2 else if 1048576 < (rd l p).1 then 3 else if (len : Int) - (rd l p).2.1 < (rd l p).1 then 5 else 0 := by unfold rtE; rw [h.1]
  rw [h.1] at hnx
  generalize (rd l p).1 = x at *
  generalize (rd l p).2.1 = y at *
  generalize (rd l p).2.2 = z at *
  obtain ⟨b0, b1⟩ := b
  by_cases hz : z ≠ 0
  · rw [if_pos hz] at EB EP EE
    have t1 : (z != 0) = true := by simpa using hz
    have EB := hid EB; have EP := hid EP; have EE := hid EE
    clear hz hnx h
    rename_i EB0 EP0 EE0; clear EB0 EP0 EE0
    go_enter Try.func25, Try.ntmps25
    go_wp2_with fail
    refine (K.out _ rfl).mono ?_
    rintro e w1 ⟨rfl, rfl⟩
    go_wp2
    go_ret3
    exact ⟨_, rets EP.out EE.out, by rw [EB.out]; exact own_nil _ _, Below.refl _ _⟩
  rw [if_neg hz] at EB EP EE
  have t1 : (z != 0) = false := by simpa using hz
  obtain rfl : z = 0 := by simpa using hz
  have hnx := hnx rfl
  clear hz t1
  by_cases hx : 1048576 < x
  · rw [if_pos hx] at EB EP EE
    have t2 : decide (1048576 < x) = true := by simp; omega
    have EB := hid EB; have EP := hid EP; have EE := hid EE
    clear h
    rename_i EB0 EP0 EE0; clear EB0 EP0 EE0
    go_enter Try.func25, Try.ntmps25
    go_wp2_with fail
    refine (K.out _ rfl).mono ?_
    rintro e w1 ⟨rfl, rfl⟩
    go_wp2
    go_ret3
    exact ⟨_, rets EP.out EE.out, by rw [EB.out]; exact own_nil _ _, Below.refl _ _⟩
  rw [if_neg hx] at EB EP EE
  have t2 : decide (1048576 < x) = false := by simp; omega
  obtain ⟨q0, q1, q2, q3⟩ := hnx
  by_cases hs : (len : Int) - y < x
  · rw [if_pos hs] at EB EP EE
    have t3 : decide ((len : Int) - y < x) = true := by simp; omega
    have EB := hid EB; have EP := hid EP; have EE := hid EE
    clear h
    rename_i EB0 EP0 EE0; clear EB0 EP0 EE0
    go_enter Try.func25, Try.ntmps25
    go_wp2_with fail
    refine (K.out _ rfl).mono ?_
    rintro e w1 ⟨rfl, rfl⟩
    go_wp2
    go_ret3
    exact ⟨_, rets EP.out EE.out, by rw [EB.out]; exact own_nil _ _, Below.refl _ _⟩
  rw [if_neg hs] at EB EP EE
  obtain ⟨m, rfl⟩ := Int.eq_ofNat_of_zero_le (show 0 ≤ y by omega)
  obtain ⟨c, rfl⟩ := Int.eq_ofNat_of_zero_le b0
  have t3 : decide (((len : Int) - (m : Int)) < (c : Int)) = false := by simp; omega
  rw [Int.toNat_natCast, Int.toNat_natCast] at EB
  obtain ⟨bk, off, rfl, hc⟩ := h.2.2.2.2.2.2 (by omega)
  have EL : Hid (((l.drop m).take c).length = c) := by unfold Hid; rw [List.length_take, List.length_drop, h.1]; omega
  have hcc := h.2.2.1
  have hcx := h.2.2.2.1
  have D : Hid (∀ (A : Option Addr), (¬ cap = m → A = some ⟨bk, off + m, none⟩) → A ≠ none → ∀ w', w' = w → HoldsB w' A c (cap - m) ((l.drop m).take c)) := by
    rintro A h1 h2 w' rfl
    exact holds_mid h m c (by omega) A h1 h2
  have EB := hid EB; have EP := hid EP; have EE := hid EE
  clear h hc
  rename_i EB0 EP0 EE0; clear EB0 EP0 EE0
  by_cases hcap : cap = m
  · subst hcap
    obtain rfl : c = 0 := by omega
    obtain rfl : len = cap := by omega
    clear D
    go_enter Try.func25, Try.ntmps25
    go_wp2_with fail
    refine (K.out _ rfl).mono ?_
    rintro e w1 ⟨rfl, rfl⟩
    go_wp2_with fail
    refine (room_any _ 0 0 0 _ (by simp) [] _ (holds_empty _ _) (by omega)).mono ?_
    rintro e w1 ⟨g, rfl, h1, b1⟩
    go_wp2
    go_ret3
    exact ⟨_, rets (by rw [EP.out]; simp) EE.out, by rw [EB.out]; exact h1.own, b1⟩
  · go_enter Try.func25, Try.ntmps25
    go_wp2_with fail
    refine (K.out _ rfl).mono ?_
    rintro e w1 ⟨rfl, rfl⟩
    go_wp2_with fail
    refine (room_any _ c _ 0 _ (by simp) _ _ (D.out _ (fun _ => rfl) (by simp) _ rfl) (by omega)).mono ?_
    rintro e w1 ⟨g, rfl, h1, b1⟩
    go_wp2
    go_ret3
    exact ⟨_, rets (by rw [EP.out]) EE.out, by rw [EB.out, EL.out]; exact h1.own, b1⟩

set_option maxRecDepth 100000 in
set_option maxHeartbeats 2000000 in
theorem gettext_any (a : Option Addr) (len cap : Nat) (l : List Int) (p : Int) (w : World) (h : HoldsB w a len cap l) (hp : I64 p) (hm : len ≤ 140737488355328) :
    Calls Try.prog 26 #[.slice a len cap, .int .i64 p] w fun e w' => ∃ v, e = .returned (.tuple #[v, .int .i64 (rtP l p), .int .i64 (rtE l p)]) ∧ Own w.heap.size w' v (rtB l p).length (rtB l p) ∧ Below w.heap.size w w' := by
  have K := hid (fun w' (e : w' = w) => getnum_any a len cap l p w' (e ▸ h) hp)
  have b := rd_bd l p h.2.2.2.2.1
  have hnx := rd_next l p
  have EB : rtB l p = if (rd l p).2.2 ≠ 0 then [] else if 1048576 < (rd l p).1 then [] else if (len : Int) - (rd l p).2.1 < (rd l p).1 then [] else (l.drop (rd l p).2.1.toNat).take (rd l p).1.toNat := by unfold rtB; rw [h.1]
  have EP : rtP l p = if (rd l p).2.2 ≠ 0 then (rd l p).2.1 else if 1048576 < (rd l p).1 then p else if (len : Int) - (rd l p).2.1 < (rd l p).1 then (len : Int) else (rd l p).2.1 + (rd l p).1 := by unfold rtP; rw [h.1]
  have EE : rtE l p = if (rd l p).2.2 ≠ 0 then (rd l p).2.2 else if 1048576 < (rd l p).1 then 3 else if (len : Int) - (rd l p).2.1 < (rd l p).1 then 5 else 0 := by unfold rtE; rw [h.1]
  rw [h.1] at hnx
  generalize (rd l p).1 = x at *
  generalize (rd l p).2.1 = y at *
  generalize (rd l p).2.2 = z at *
  obtain ⟨b0, b1⟩ := b
  by_cases hz : z ≠ 0
  · rw [if_pos hz] at EB EP EE
    have t1 : (z != 0) = true := by simpa using hz
    have EB := hid EB; have EP := hid EP; have EE := hid EE
    clear hz hnx h
    rename_i EB0 EP0 EE0; clear EB0 EP0 EE0
    go_enter Try.func26, Try.ntmps26
    go_wp2_with fail
    refine (K.out _ rfl).mono ?_
    rintro e w1 ⟨rfl, rfl⟩
    go_wp2
    go_ret3
    exact ⟨_, rets EP.out EE.out, by rw [EB.out]; exact own_nil _ _, Below.refl _ _⟩
  rw [if_neg hz] at EB EP EE
  have t1 : (z != 0) = false := by simpa using hz
  obtain rfl : z = 0 := by simpa using hz
  have hnx := hnx rfl
  clear hz t1
  by_cases hx : 1048576 < x
  · rw [if_pos hx] at EB EP EE
    have t2 : decide (1048576 < x) = true := by simp; omega
    have EB := hid EB; have EP := hid EP; have EE := hid EE
    clear h
    rename_i EB0 EP0 EE0; clear EB0 EP0 EE0
    go_enter Try.func26, Try.ntmps26
    go_wp2_with fail
    refine (K.out _ rfl).mono ?_
    rintro e w1 ⟨rfl, rfl⟩
    go_wp2
    go_ret3
    exact ⟨_, rets EP.out EE.out, by rw [EB.out]; exact own_nil _ _, Below.refl _ _⟩
  rw [if_neg hx] at EB EP EE
  have t2 : decide (1048576 < x) = false := by simp; omega
  obtain ⟨q0, q1, q2, q3⟩ := hnx
  by_cases hs : (len : Int) - y < x
  · rw [if_pos hs] at EB EP EE
    have t3 : decide ((len : Int) < y + x) = true := by simp; omega
    have EB := hid EB; have EP := hid EP; have EE := hid EE
    clear h
    rename_i EB0 EP0 EE0; clear EB0 EP0 EE0
    go_enter Try.func26, Try.ntmps26
    go_wp2_with fail
    refine (K.out _ rfl).mono ?_
    rintro e w1 ⟨rfl, rfl⟩
    go_wp2
    go_ret3
    exact ⟨_, rets EP.out EE.out, by rw [EB.out]; exact own_nil _ _, Below.refl _ _⟩
  rw [if_neg hs] at EB EP EE
  obtain ⟨m, rfl⟩ := Int.eq_ofNat_of_zero_le (show 0 ≤ y by omega)
  obtain ⟨c, rfl⟩ := Int.eq_ofNat_of_zero_le b0
  have t3 : decide ((len : Int) < (m : Int) + (c : Int)) = false := by simp; omega
  rw [Int.toNat_natCast, Int.toNat_natCast] at EB
  obtain ⟨bk, off, rfl, hc⟩ := h.2.2.2.2.2.2 (by omega)
  have EL : Hid (((l.drop m).take c).length = c) := by unfold Hid; rw [List.length_take, List.length_drop, h.1]; omega
  have hcc := h.2.2.1
  have hcx := h.2.2.2.1
  have D : Hid (∀ (A : Option Addr), (¬ cap = m → A = some ⟨bk, off + m, none⟩) → A ≠ none → ∀ w', w' = w → HoldsB w' A c (cap - m) ((l.drop m).take c)) := by
    rintro A h1 h2 w' rfl
    exact holds_mid h m c (by omega) A h1 h2
  have EB := hid EB; have EP := hid EP; have EE := hid EE
  clear h hc
  rename_i EB0 EP0 EE0; clear EB0 EP0 EE0
  by_cases hcap : cap = m
  · subst hcap
    obtain rfl : c = 0 := by omega
    obtain rfl : len = cap := by omega
    clear D
    go_enter Try.func26, Try.ntmps26
    go_wp2_with fail
    refine (K.out _ rfl).mono ?_
    rintro e w1 ⟨rfl, rfl⟩
    go_wp2_with fail
    refine (twin_any _ 0 0 [] _ (holds_empty _ _) (by omega)).mono ?_
    rintro e w1 ⟨v, rfl, h1, b1⟩
    go_wp2
    go_ret3
    exact ⟨_, rets (by rw [EP.out]; simp) EE.out, by rw [EB.out]; exact h1, b1⟩
  · go_enter Try.func26, Try.ntmps26
    go_wp2_with fail
    refine (K.out _ rfl).mono ?_
    rintro e w1 ⟨rfl, rfl⟩
    go_wp2_with fail
    refine (twin_any _ c _ _ _ (D.out _ (fun _ => rfl) (by simp) _ rfl) (by omega)).mono ?_
    rintro e w1 ⟨v, rfl, h1, b1⟩
    go_wp2
    go_ret3
    exact ⟨_, rets (by rw [EP.out]) EE.out, by rw [EB.out, EL.out]; exact h1, b1⟩

end Go.Proofs.Ytmdhcigkhapolab
