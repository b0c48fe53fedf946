/-
  Contracts of strip: Guard and the document's Guarded; the weights that stand behind bytes; how much they are above the right ones.
-/
import Derived.Test.YtmdhcigkhapolabSI
import Derived.Laws.BitsAllLaws
import Derived.Deep.RegionHeld3
namespace Go.Proofs.Ytmdhcigkhapolab
open Go.RowKit Go.Deep
set_option linter.unusedVariables false

theorem below_alloc' (w : World) (o : Obj) : Below w.heap.size w (w.alloc o) := (Below.refl _ _).alloc (Nat.le_refl _) _

theorem weigh_any (a : Option Addr) (len cap : Nat) (l : List Int) (w : World) (h : HoldsB w a len cap l) (hm : len ≤ 60000) :
    Calls Try.prog 41 #[.slice a len cap] w fun e w' => e = .returned (.agg #[.int .i64 (P1 l), .int .i64 (P2 l)]) ∧ Below w.heap.size w w' :=
  weigh_row a len cap l w h.1 hm h.2.2.2.2.1 h.2.2.2.2.2.2

/-- A slice of two new bytes, of four. -/
theorem holds_two (w : World) (x y : Int) (x0 : 0 ≤ x) (x1 : x ≤ 255) (y0 : 0 ≤ y) (y1 : y ≤ 255) : HoldsB (w.alloc (.cells #[.int .u8 x, .int .u8 y] 5)) (some ⟨w.heap.size, 0, none⟩) 2 2 [x, y] := by
  refine ⟨rfl, by omega, by omega, by omega, BB.cons x0 x1 (BB.one y0 y1), fun e => by simp at e, fun _ => ⟨_, _, rfl, fun j hj => ?_⟩⟩
  obtain rfl | rfl : j = 0 ∨ j = 1 := by omega
  · simp [go_sem]
  · simp [go_sem]
theorem holds_four (w : World) (x y z t : Int) (h : BB [x, y, z, t]) : HoldsB (w.alloc (.cells #[.int .u8 x, .int .u8 y, .int .u8 z, .int .u8 t] 5)) (some ⟨w.heap.size, 0, none⟩) 4 4 [x, y, z, t] := by
  refine ⟨rfl, by omega, by omega, by omega, h, fun e => by simp at e, fun _ => ⟨_, _, rfl, fun j hj => ?_⟩⟩
  obtain rfl | rfl | rfl | rfl : j = 0 ∨ j = 1 ∨ j = 2 ∨ j = 3 := by omega
  · simp [go_sem]
  · simp [go_sem]
  · simp [go_sem]
  · simp [go_sem]

theorem ret2v {v : Value} {k : IntKind} {a x : Int} (h : x = a) : Ending.returned (.tuple #[v, .int k a]) = .returned (.tuple #[v, .int k x]) := by cases h; rfl

def gB (l : List Int) : List Int := if 60000 < l.length then [] else gd l
def gE (l : List Int) : Int := if 60000 < l.length then 3 else 0

set_option maxHeartbeats 2000000 in
theorem guard_any (a : Option Addr) (len cap : Nat) (l : List Int) (w : World) (h : HoldsB w a len cap l) :
    Calls Try.prog 27 #[.slice a len cap] w fun e w' => ∃ v, e = .returned (.tuple #[v, .int .i64 (gE l)]) ∧ Own w.heap.size w' v (gB l).length (gB l) ∧ Below w.heap.size w w' := by
  have hm := h.2.1
  by_cases hl : 60000 < len
  · have t1 : decide (60000 < (len : Int)) = true := by simp; omega
    have t2 : decide (60000 < len) = true := by simp; omega
    have EB : Hid (gB l = []) := by unfold Hid gB; rw [h.1, if_pos hl]
    have EE : Hid (gE l = 3) := by unfold Hid gE; rw [h.1, if_pos hl]
    clear h
    go_enter Try.func27, Try.ntmps27
    go_wp2
    go_ret2
    exact ⟨_, ret2v EE.out, by rw [EB.out]; exact own_nil _ _, Below.refl _ _⟩
  · have t1 : decide (60000 < (len : Int)) = false := by simp; omega
    have t2 : decide (60000 < len) = false := by simp; omega
    have EB : Hid (gB l = l ++ [P1 l / 256, P1 l % 256, P2 l / 256, P2 l % 256]) := by unfold Hid gB; rw [h.1, if_neg hl]; rfl
    have EE : Hid (gE l = 0) := by unfold Hid gE; rw [h.1, if_neg hl]
    have EL : Hid ((l ++ [P1 l / 256, P1 l % 256, P2 l / 256, P2 l % 256]).length = len + 4) := by unfold Hid; simp [h.1]
    have WG := hid (fun (w' : World) (hb : HoldsB w' a len cap l) => weigh_any a len cap l w' hb (show len ≤ 60000 by omega))
    have pb := P_bd l
    have H := hid h
    clear h
    generalize P1 l = u at *
    generalize P2 l = v at *
    obtain ⟨u0, u1, v0, v1⟩ := pb
    have i0 : ∀ w, (Instr.index 59 (.agg #[.int .i64 u, .int .i64 v]) (.int .i64 0)).run Try.prog w = .ok (.int .i64 u) w := fun _ => by kernel_rfl
    have i1 : ∀ w, (Instr.index 59 (.agg #[.int .i64 u, .int .i64 v]) (.int .i64 1)).run Try.prog w = .ok (.int .i64 v) w := fun _ => by kernel_rfl
    go_enter Try.func27, Try.ntmps27
    go_wp2_with fail
    refine (room_any a len cap 4 _ (by simp) l _ H.out (by omega)).mono ?_
    rintro e w1 ⟨g, rfl, h1, b1⟩
    go_wp2_with fail
    refine (WG.out _ (H.out.below b1)).mono ?_
    rintro e w2 ⟨rfl, b2⟩
    have h2 := h1.below b2
    have b3 := b1.trans (b2.mono b1.size)
    clear h1 b1 b2
    go_wp2_with fail
    go_loopw [4, 14] (fun s i wr => ∃ k : Nat, k ≤ 2 ∧ i = .int .i64 k ∧ s = .slice (some ⟨g, 0, none⟩) (len + 2 * k) (len + 4) ∧ Row w.heap.size wr g (len + 2 * k) (len + 4) (l ++ [u / 256, u % 256, v / 256, v % 256].take (2 * k)) ∧ Below w.heap.size w wr) (fun _ i _ => 2 - (intOf i).toNat)
    case atStart => exact ⟨0, by omega, rfl, rfl, by simpa using h2, b3⟩
    case round =>
      clear h2 b3
      obtain ⟨k, hk, rfl, rfl, hr, hB⟩ := hrel
      have hsz := hB.size
      obtain rfl | rfl | rfl : k = 0 ∨ k = 1 ∨ k = 2 := by omega
      · have A := hid (fun o => hr.below (below_alloc' wr o))
        have HT := hid (holds_two wr (u / 256) (u % 256) (by omega) (by omega) (by omega) (by omega))
        have BA := hid (fun o => hB.trans ((below_alloc' wr o).mono hsz))
        clear hr hB
        go_wp2_with (at_builtin; refine cat_fits _ rfl (.tmp 17) (.tmp 23) rfl _ g (len + 2 * 0) (len + 4) _ rfl (A.out _) _ 2 2 _ rfl HT.out (by omega) ?_)
        intro w5 h5 b5
        have b6 := (BA.out _).trans b5
        clear b5
        go_wp2
        go_roundw
        case rel => exact ⟨1, by omega, by go_num, by simp, by simpa using h5, b6⟩
        case measure => simp [intOf]
      · have A := hid (fun o => hr.below (below_alloc' wr o))
        have HT := hid (holds_two wr (v / 256) (v % 256) (by omega) (by omega) (by omega) (by omega))
        have BA := hid (fun o => hB.trans ((below_alloc' wr o).mono hsz))
        clear hr hB
        go_wp2_with (at_builtin; refine cat_fits _ rfl (.tmp 17) (.tmp 23) rfl _ g (len + 2 * 1) (len + 4) _ rfl (A.out _) _ 2 2 _ rfl HT.out (by omega) ?_)
        intro w5 h5 b5
        have b6 := (BA.out _).trans b5
        clear b5
        go_wp2
        go_roundw
        case rel => exact ⟨2, by omega, by go_num, by simp, by simpa using h5, b6⟩
        case measure => simp [intOf]
      · go_wp2
        go_ret2
        exact ⟨_, ret2v EE.out, by rw [EB.out, EL.out]; simpa using hr.own, hB⟩

set_option maxHeartbeats 2000000 in
theorem rguarded_any (a : Option Addr) (len cap : Nat) (l : List Int) (w : World) (h : HoldsB w a len cap l) :
    Calls Try.prog 28 #[.slice a len cap] w fun e w' => ∃ v, e = .returned (.tuple #[v, .int .i64 (gE l)]) ∧ Own w.heap.size w' v (gB l).length (gB l) ∧ Below w.heap.size w w' := by
  have hm := h.2.1
  by_cases hl : 60000 < len
  · have t1 : decide (60000 < (len : Int)) = true := by simp; omega
    have t2 : decide (60000 < len) = true := by simp; omega
    have EB : Hid (gB l = []) := by unfold Hid gB; rw [h.1, if_pos hl]
    have EE : Hid (gE l = 3) := by unfold Hid gE; rw [h.1, if_pos hl]
    clear h
    go_enter Try.func28, Try.ntmps28
    go_wp2
    go_ret2
    exact ⟨_, ret2v EE.out, by rw [EB.out]; exact own_nil _ _, Below.refl _ _⟩
  · have t1 : decide (60000 < (len : Int)) = false := by simp; omega
    have t2 : decide (60000 < len) = false := by simp; omega
    have EB : Hid (gB l = l ++ [P1 l / 256, P1 l % 256, P2 l / 256, P2 l % 256]) := by unfold Hid gB; rw [h.1, if_neg hl]; rfl
    have EE : Hid (gE l = 0) := by unfold Hid gE; rw [h.1, if_neg hl]
    have EL : Hid ((l ++ [P1 l / 256, P1 l % 256, P2 l / 256, P2 l % 256]).length = len + 4) := by unfold Hid; simp [h.1]
    have WG := hid (fun (w' : World) (hb : HoldsB w' a len cap l) => rweights_any a len cap l w' hb (show len ≤ 60000 by omega))
    have pb := P_bd l
    have H := hid h
    clear h
    generalize P1 l = u at *
    generalize P2 l = v at *
    obtain ⟨u0, u1, v0, v1⟩ := pb
    have HF := hid (holds_four w (u / 256) (u % 256) (v / 256) (v % 256) (BB.cons (by omega) (by omega) (BB.cons (by omega) (by omega) (BB.cons (by omega) (by omega) (BB.one (by omega) (by omega))))))
    go_enter Try.func28, Try.ntmps28
    go_wp2_with fail
    refine (WG.out _ H.out).mono ?_
    rintro e w2 ⟨rfl, rfl⟩
    go_wp2_with fail
    refine (after_any a len cap l _ 4 4 _ _ (H.out.below (below_alloc' _ _)) HF.out (by omega)).mono ?_
    rintro e w3 ⟨x, rfl, h3, b3⟩
    have h4 := h3.base (b' := w.heap.size) (by simp)
    have b4 : Below w.heap.size w w3 := (below_alloc' w _).trans (b3.mono (by simp))
    clear h3 b3
    go_wp2
    go_ret2
    exact ⟨_, ret2v EE.out, by rw [EB.out, EL.out]; exact h4, b4⟩

end Go.Proofs.Ytmdhcigkhapolab
