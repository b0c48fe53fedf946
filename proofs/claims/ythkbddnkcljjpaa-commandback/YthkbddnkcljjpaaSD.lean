/-
  Contracts of strip: Lay, LayInt, LayBytes; the document's Num, Whole, Text, After; lists of bytes compared.
-/
import Derived.Test.YthkbddnkcljjpaaSC
namespace Go.Proofs.Ythkbddnkcljjpaa
open Go.RowKit Go.Deep
set_option linter.unusedVariables false

set_option maxHeartbeats 1000000 in
theorem lay_any (a : Option Addr) (len cap : Nat) (l : List Int) (x : Int) (w : World) (h : HoldsB w a len cap l) (h0 : 0 ≤ x) (h1 : x ≤ 18446744073709551615) (hm : len + 9 ≤ 281474976710656) :
    Calls Try.prog 119 #[.slice a len cap, .int .u64 x] w fun e w' => ∃ g, e = .returned (.slice (some ⟨g, 0, none⟩) (len + (1 + shelf x)) (len + (1 + shelf x))) ∧ Row w.heap.size w' g (len + (1 + shelf x)) (len + (1 + shelf x)) (l ++ numB x) ∧ Below w.heap.size w w' := by
  have hs := shelf_le x
  have H := hid h
  clear h
  go_enter Try.func119, Try.ntmps119
  go_wp2_with fail
  refine (size_any' x h0 h1 _).mono ?_
  rintro e w1 ⟨rfl, rfl⟩
  go_wp2_with fail
  refine (room_any a len cap (1 + shelf x) _ (by omega) l _ H.out (by omega)).mono ?_
  rintro e w2 ⟨g, rfl, h2, b2⟩
  go_wp2_with fail
  refine (appnum_any _ g len _ l x _ h2 h0 h1 (by omega)).mono ?_
  rintro e w3 ⟨rfl, h3, b3⟩
  have b4 := b2.trans b3
  clear h2 b2 b3
  go_wp2
  go_ret
  exact ⟨g, rfl, h3, b4⟩

set_option maxHeartbeats 1000000 in
theorem layint_any (a : Option Addr) (len cap : Nat) (l : List Int) (x : Int) (w : World) (h : HoldsB w a len cap l) (hx : I64 x) (hm : len + 9 ≤ 281474976710656) :
    Calls Try.prog 102 #[.slice a len cap, .int .i64 x] w fun e w' => ∃ g, e = .returned (.slice (some ⟨g, 0, none⟩) (len + (1 + shelf (zig x))) (len + (1 + shelf (zig x)))) ∧ Row w.heap.size w' g (len + (1 + shelf (zig x))) (len + (1 + shelf (zig x))) (l ++ numB (zig x)) ∧ Below w.heap.size w w' := by
  have H := hid h
  have P := hid (fun w => place_any x hx w)
  have z := zig_bd hx
  clear h
  generalize zig x = y at *
  go_enter Try.func102, Try.ntmps102
  go_wp2_with fail
  refine (P.out _).mono ?_
  rintro e w1 ⟨rfl, rfl⟩
  go_wp2_with fail
  refine (lay_any a len cap l y _ H.out z.1 z.2 hm).mono ?_
  rintro e w2 ⟨g, rfl, h2, b2⟩
  go_wp2
  go_ret
  exact ⟨g, rfl, h2, b2⟩

end Go.Proofs.Ythkbddnkcljjpaa
