/-
  Contracts of strip: Lay, LayInt, LayBytes; the document's Num, Whole, Text, After; lists of bytes compared.
-/
import Derived.Test.YtmdhcigkhapolabSC
namespace Go.Proofs.Ytmdhcigkhapolab
open Go.RowKit Go.Deep
set_option linter.unusedVariables false

set_option maxHeartbeats 1000000 in
theorem lay_any (a : Option Addr) (len cap : Nat) (l : List Int) (x : Int) (w : World) (h : HoldsB w a len cap l) (h0 : 0 ≤ x) (h1 : x ≤ 18446744073709551615) (hm : len + 9 ≤ 281474976710656) :
    Calls Try.prog 13 #[.slice a len cap, .int .u64 x] w fun e w' => ∃ g, e = .returned (.slice (some ⟨g, 0, none⟩) (len + (1 + shelf x)) (len + (1 + shelf x))) ∧ Row w.heap.size w' g (len + (1 + shelf x)) (len + (1 + shelf x)) (l ++ numB x) ∧ Below w.heap.size w w' := by
  have hs := shelf_le x
  have H := hid h
  clear h
  go_enter Try.func13, Try.ntmps13
  go_wp2_with fail
  refine (size_any' x h0 h1 _).mono ?_
  rintro e w1 ⟨rfl, rfl⟩
  go_wp2_with fail
  refine (room_any a len cap (1 + shelf x) _ (by omega) l _ H.out (by omega)).mono ?_
  rintro e w2 ⟨g, rfl, h2, b2⟩
  go_wp2_with fail
  refine (appnum_any _ g len _ l x _ h2 h0 h1 (by omega)).mono ?_
  rintro e w3 ⟨rfl, h3, b3⟩
  have b4 := b2.trans b3
  clear h2 b2 b3
  go_wp2
  go_ret
  exact ⟨g, rfl, h3, b4⟩

set_option maxHeartbeats 1000000 in
theorem layint_any (a : Option Addr) (len cap : Nat) (l : List Int) (x : Int) (w : World) (h : HoldsB w a len cap l) (hx : I64 x) (hm : len + 9 ≤ 281474976710656) :
    Calls Try.prog 16 #[.slice a len cap, .int .i64 x] w fun e w' => ∃ g, e = .returned (.slice (some ⟨g, 0, none⟩) (len + (1 + shelf (zig x))) (len + (1 + shelf (zig x)))) ∧ Row w.heap.size w' g (len + (1 + shelf (zig x))) (len + (1 + shelf (zig x))) (l ++ numB (zig x)) ∧ Below w.heap.size w w' := by
  have H := hid h
  have P := hid (fun w => place_any x hx w)
  have z := zig_bd hx
  clear h
  generalize zig x = y at *
  go_enter Try.func16, Try.ntmps16
  go_wp2_with fail
  refine (P.out _).mono ?_
  rintro e w1 ⟨rfl, rfl⟩
  go_wp2_with fail
  refine (lay_any a len cap l y _ H.out z.1 z.2 hm).mono ?_
  rintro e w2 ⟨g, rfl, h2, b2⟩
  go_wp2
  go_ret
  exact ⟨g, rfl, h2, b2⟩

set_option maxHeartbeats 1000000 in
theorem laybytes_any (a : Option Addr) (len cap : Nat) (l : List Int) (a2 : Option Addr) (m cap2 : Nat) (p : List Int) (w : World) (h : HoldsB w a len cap l) (h2 : HoldsB w a2 m cap2 p) (hm : len + m + 9 ≤ 281474976710656) :
    Calls Try.prog 18 #[.slice a len cap, .slice a2 m cap2] w fun e w' => ∃ g c, e = .returned (.slice (some ⟨g, 0, none⟩) (len + (1 + shelf m) + m) c) ∧ Row w.heap.size w' g (len + (1 + shelf m) + m) c (l ++ (numB m ++ p)) ∧ Below w.heap.size w w' := by
  have hs := shelf_le m
  have H := hid h
  have H2 := hid h2
  clear h h2
  go_enter Try.func18, Try.ntmps18
  go_wp2_with fail
  refine (size_any' m (by omega) (by omega) _).mono ?_
  rintro e w1 ⟨rfl, rfl⟩
  go_wp2_with fail
  refine (room_any a len cap (1 + shelf m + m) _ (by omega) l _ H.out (by omega)).mono ?_
  rintro e w2 ⟨g, rfl, h2, b2⟩
  go_wp2_with fail
  refine (appnum_any _ g len _ l m _ h2 (by omega) (by omega) (by omega)).mono ?_
  rintro e w3 ⟨rfl, h3, b3⟩
  have b4 := b2.trans b3
  have H3 := hid (H2.out.below b4)
  clear h2 b2 b3
  go_wp2_with (at_builtin; refine cat_fits _ rfl (.tmp 19) (.tmp 20) rfl _ g (len + (1 + shelf m)) _ _ rfl h3 a2 m cap2 p rfl H3.out (by omega) ?_)
  intro w5 h5 b5
  have b6 := b4.trans b5
  clear h3 b4 b5
  go_wp2
  go_ret
  exact ⟨g, _, rfl, by simpa using h5, b6⟩

set_option maxHeartbeats 1000000 in
theorem after_any (a : Option Addr) (len cap : Nat) (l : List Int) (a2 : Option Addr) (m cap2 : Nat) (p : List Int) (w : World) (h : HoldsB w a len cap l) (h2 : HoldsB w a2 m cap2 p) (hm : len + m ≤ 140737488355328) :
    Calls Try.prog 14 #[.slice a len cap, .slice a2 m cap2] w fun e w' => ∃ v, e = .returned v ∧ Own w.heap.size w' v (len + m) (l ++ p) ∧ Below w.heap.size w w' := by
  have H := hid h
  have H2 := hid h2
  clear h h2
  have B0 : Below w.heap.size w (w.alloc (.cells #[] 5)) := (by repeat (first | exact Below.refl _ _ | assumption | refine Below.alloc ?_ (by simp <;> omega) _ | refine Below.setCell ?_ (by simp <;> omega) _ | refine Below.drew ?_ | refine below_drewN ?_ _))
  go_enter Try.func14, Try.ntmps14
  go_wp2_with (at_builtin; refine cat_own _ rfl (.tmp 6) (.tmp 7) rfl w.heap.size 0 _ [] rfl (own_lit w) (by simp) a len cap l rfl (H.out.below B0) (by omega) ?_)
  intro v1 w1 h1 b1
  have b1' := B0.trans b1
  have hs := b1'.size
  go_wp2_with (at_builtin; refine cat_own _ rfl (.tmp 9) (.tmp 10) rfl w.heap.size len v1 l rfl h1 (by omega) a2 m cap2 p rfl (H2.out.below b1') (by omega) ?_)
  intro v2 w2 h2 b2
  have b3 := b1'.trans b2
  clear h1 b1 b2 b1'
  go_wp2
  go_ret
  exact ⟨v2, rfl, h2, b3⟩

set_option maxHeartbeats 1000000 in
theorem twin_any (a : Option Addr) (len cap : Nat) (l : List Int) (w : World) (h : HoldsB w a len cap l) (hm : len ≤ 140737488355328) :
    Calls Try.prog 40 #[.slice a len cap] w fun e w' => ∃ v, e = .returned v ∧ Own w.heap.size w' v len l ∧ Below w.heap.size w w' := by
  have H := hid h
  clear h
  have B0 : Below w.heap.size w (w.alloc (.cells #[] 5)) := (by repeat (first | exact Below.refl _ _ | assumption | refine Below.alloc ?_ (by simp <;> omega) _ | refine Below.setCell ?_ (by simp <;> omega) _ | refine Below.drew ?_ | refine below_drewN ?_ _))
  go_enter Try.func40, Try.ntmps40
  go_wp2_with (at_builtin; refine cat_own _ rfl (.tmp 3) (.tmp 4) rfl w.heap.size 0 _ [] rfl (own_lit w) (by simp) a len cap l rfl (H.out.below B0) (by omega) ?_)
  intro v1 w1 h1 b1
  have b1' := B0.trans b1
  clear b1
  go_wp2
  go_ret
  exact ⟨v1, rfl, h1, b1'⟩

end Go.Proofs.Ytmdhcigkhapolab
