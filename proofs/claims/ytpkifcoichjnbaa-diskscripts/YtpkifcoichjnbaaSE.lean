/-
  Contracts: the document's Num, Whole, Text; lists of bytes compared.
-/
import Derived.Test.YtpkifcoichjnbaaSD
import Derived.Laws.Cells
namespace Go.Proofs.Ytpkifcoichjnbaa
open Go.RowKit Go.Deep
set_option linter.unusedVariables false
/-- A list of bytes as a string. -/
def bs (l : List Int) : ByteArray := l.foldl (fun r n => r.push (UInt8.ofNat n.toNat)) ByteArray.empty
theorem bs_fold (l : List Int) (r : ByteArray) : (l.foldl (fun r n => r.push (UInt8.ofNat n.toNat)) r).data.toList = r.data.toList ++ l.map (fun n => UInt8.ofNat n.toNat) := by
  induction l generalizing r with
  | nil => simp
  | cons x l ih => rw [List.foldl_cons, ih]; simp [ByteArray.push]
theorem bs_data (l : List Int) : (bs l).data.toList = l.map (fun n => UInt8.ofNat n.toNat) := by
  unfold bs; rw [bs_fold]; rfl
theorem byte_inj {x y : Int} (hx : 0 ≤ x ∧ x ≤ 255) (hy : 0 ≤ y ∧ y ≤ 255) (h : UInt8.ofNat x.toNat = UInt8.ofNat y.toNat) : x = y := by
  have := congrArg UInt8.toNat h
  rw [UInt8.toNat_ofNat', UInt8.toNat_ofNat'] at this
  omega
theorem map_inj' : ∀ (l p : List Int), BB l → BB p → l.map (fun n => UInt8.ofNat n.toNat) = p.map (fun n => UInt8.ofNat n.toNat) → l = p
  | [], [], _, _, _ => rfl
  | [], _ :: _, _, _, h => by simp at h
  | _ :: _, [], _, _, h => by simp at h
  | x :: l, y :: p, hl, hp, h => by
    simp only [List.map_cons, List.cons.injEq] at h
    rw [byte_inj (hl x (by simp)) (hp y (by simp)) h.1, map_inj' l p (fun z hz => hl z (by simp [hz])) (fun z hz => hp z (by simp [hz])) h.2]
theorem bs_inj {l p : List Int} (hl : BB l) (hp : BB p) : (bs l).toList = (bs p).toList ↔ l = p := by
  refine ⟨fun h => map_inj' l p hl hp ?_, fun h => by rw [h]⟩
  rw [ByteArray.toList_eq, ByteArray.toList_eq] at h
  rw [← bs_data, ← bs_data, h]

theorem conv8 {w : World} {a : Option Addr} {len cap : Nat} {l : List Int} (h : HoldsB w a len cap l) :
    (convert 34 9 (.slice a len cap)).run Try.prog w = .ok (.string (bs l)) w := by
  obtain ⟨h1, h2, h3, h4, h5, h6, h7⟩ := h
  rw [run_convert_bytes_string w 34 9 5 a len cap Try.underlying34 Try.underlying5 Try.underlying9]
  by_cases hp : 0 < len
  · obtain ⟨b, off, rfl, hc⟩ := h7 hp
    refine run_bytesToString w _ len cap l ?_
    have e : (l.map (Value.int .u8)).length = len := by simp [h1]
    rw [← e]
    refine run_loadCells_list w _ _ ?_
    intro j u hj
    have hjm : j < len := by have := (List.getElem?_eq_some_iff.1 hj).1; simpa [h1] using this
    rw [Addr.add_lit, hc j hjm]
    rw [List.getElem?_map, List.getElem?_eq_getElem (by omega)] at hj
    rw [List.getElem?_eq_getElem (by omega)]
    simpa using hj
  · obtain rfl : len = 0 := by omega
    obtain rfl : l = [] := List.length_eq_zero_iff.1 h1
    cases a with
    | none =>
      obtain ⟨_, rfl⟩ := h6 rfl
      rfl
    | some ad => exact run_bytesToString w ad 0 cap [] rfl

set_option maxHeartbeats 1000000 in
theorem bytes_any (a : Option Addr) (len cap : Nat) (l : List Int) (a2 : Option Addr) (m cap2 : Nat) (p : List Int) (w : World) (h : HoldsB w a len cap l) (h2 : HoldsB w a2 m cap2 p) :
    Calls Try.prog 18 #[.slice a len cap, .slice a2 m cap2] w fun e w' => e = .returned (.bool (decide (l = p))) ∧ w = w' := by
  have c1 := conv8 h
  have c2 := conv8 h2
  have I := hid (bs_inj h.2.2.2.2.1 h2.2.2.2.2.1)
  clear h h2
  generalize bs l = s at *
  generalize bs p = t at *
  go_enter Try.func18, Try.ntmps18
  go_wp2
  go_ret
  exact ⟨retb (by rw [Bool.eq_iff_iff]; simpa using I.out), rfl⟩
theorem bytes_v (a : Option Addr) (len cap : Nat) (l : List Int) (a2 : Option Addr) (m cap2 : Nat) (p : List Int) (b : Bool) (hb : decide (l = p) = b) (w : World) (h : HoldsB w a len cap l) (h2 : HoldsB w a2 m cap2 p) :
    Calls Try.prog 18 #[.slice a len cap, .slice a2 m cap2] w fun e w' => e = .returned (.bool b) ∧ w = w' := by rw [← hb]; exact bytes_any a len cap l a2 m cap2 p w h h2
/-- Alike. -/
theorem bytes_same (a : Option Addr) (len cap : Nat) (a2 : Option Addr) (m cap2 : Nat) (l : List Int) (w : World) (h : HoldsB w a len cap l) (h2 : HoldsB w a2 m cap2 l) :
    Calls Try.prog 18 #[.slice a len cap, .slice a2 m cap2] w fun e w' => e = .returned (.bool true) ∧ w = w' := bytes_v a len cap l a2 m cap2 l true (by simp) w h h2

end Go.Proofs.Ytpkifcoichjnbaa
