/-
  Contracts of strip: what is laid behind any bytes.
-/
import Derived.Test.YthkbddnkcljjpaaSB
namespace Go.Proofs.Ythkbddnkcljjpaa
open Go.RowKit Go.Deep
set_option linter.unusedVariables false

theorem pow8 (m : Nat) : (256 : Int) ^ m = 2 ^ (8 * m) := by rw [Int.pow_mul]; rfl
theorem retv {v v' : Value} (h : v = v') : Ending.returned v = .returned v' := by rw [h]

set_option maxHeartbeats 1000000 in
theorem room_any (a : Option Addr) (len cap r : Nat) (R : Int) (hR : R = (r : Int)) (l : List Int) (w : World) (h : HoldsB w a len cap l) (hr : len + r ≤ 281474976710656) :
    Calls Try.prog 131 #[.slice a len cap, .int .i64 R] w fun e w' => ∃ g, e = .returned (.slice (some ⟨g, 0, none⟩) len (len + r)) ∧ Row w.heap.size w' g len (len + r) l ∧ Below w.heap.size w w' := by
  subst hR
  have H := hid h
  clear h
  go_enter Try.func131, Try.ntmps131
  go_wp2_with (at_make; refine make8 w rfl (.tmp 8) rfl w.heap.size (Nat.le_refl _) _ (len + r) rfl (by omega) hr ?_)
  intro w1 h1 b1
  have H1 := hid (H.out.below b1)
  go_wp2_with (at_builtin; refine cat_fits w1 rfl (.tmp 9) (.tmp 10) rfl w.heap.size w.heap.size 0 (len + r) [] rfl h1 a len cap l rfl H1.out (by omega) ?_)
  intro w2 h2 b2
  have b3 := b1.trans b2
  clear h1 b1 b2
  go_wp2
  go_ret
  exact ⟨_, rfl, h2, b3⟩

set_option maxHeartbeats 2000000 in
theorem appnum_any (base g n cap : Nat) (l : List Int) (x : Int) (w : World) (hown : Row base w g n cap l) (h0 : 0 ≤ x) (h1 : x ≤ 18446744073709551615) (hc : n + (1 + shelf x) ≤ cap) :
    Calls Try.prog 130 #[.slice (some ⟨g, 0, none⟩) n cap, .int .u64 x] w fun e w' => e = .returned (.slice (some ⟨g, 0, none⟩) (n + (1 + shelf x)) cap) ∧ Row base w' g (n + (1 + shelf x)) cap (l ++ numB x) ∧ Below base w w' := by
  have hs := shelf_le x
  have hlt := hown.lt
  have F := hid (fun w => find_any x h0 h1 w)
  by_cases hz : shelf x = 0
  · have hx := shelf0 hz
    have NB : Hid (numB x = [x]) := by unfold Hid numB; rw [if_pos hz]
    have E0 : beg 0 = 0 := rfl
    rw [hz] at F hc ⊢
    rw [E0, Int.sub_zero] at F
    clear E0 hz hs
    have cm := hown.capm
    go_enter Try.func130, Try.ntmps130
    go_wp2_with fail
    refine (F.out _).mono ?_
    rintro e w1 ⟨rfl, rfl⟩
    go_wp2_with (at_builtin; refine push_fits _ x rfl (.tmp 15) (.tmp 18) rfl base g n cap l rfl hown rfl h0 (by omega) (by omega) ?_)
    intro w2 h2 b2
    go_wp2
    go_ret
    exact ⟨rfl, by rw [NB.out]; exact h2, b2⟩
  · have NB : Hid (numB x = (191 + (shelf x : Int)) :: be (shelf x) (x - beg (shelf x))) := by unfold Hid numB; rw [if_neg hz]
    have fb := far_bd x h0 h1 (by omega)
    have f0 := fb.1
    have f1 : x - beg (shelf x) ≤ 18446744073709551615 := by have := beg_bd (shelf x) hs; omega
    clear fb
    generalize x - beg (shelf x) = far at *
    generalize shelf x = k at *
    have cm := hown.capm
    have tz : ((k : Int) == 0) = false := by simp; omega
    go_enter Try.func130, Try.ntmps130
    go_wp2_with fail
    refine (F.out _).mono ?_
    rintro e w1 ⟨rfl, rfl⟩
    go_wp2_with (at_builtin; refine push_fits _ (192 + k - 1) rfl (.tmp 20) (.tmp 25) rfl base g n cap l rfl hown rfl (by omega) (by omega) (by omega) ?_)
    intro w2 h2 b2
    go_wp2_with fail
    go_loopw [0, 28] (fun v i wr => ∃ j : Nat, j ≤ k ∧ i = .int .i64 j ∧ v = .slice (some ⟨g, 0, none⟩) (n + 1 + j) cap ∧ Row base wr g (n + 1 + j) cap (l ++ (192 + (k : Int) - 1) :: (be k far).take j) ∧ Below base w wr) (fun _ i _ => k - (intOf i).toNat)
    case atStart => exact ⟨0, by omega, rfl, rfl, by simpa using h2, b2⟩
    case round =>
      obtain ⟨j, hj, rfl, rfl, hr, hB⟩ := hrel
      by_cases hlt' : j < k
      · have BT : Hid ((be k far).take (j + 1) = (be k far).take j ++ [far / 2 ^ (8 * (k - 1 - j)) % 256]) := by unfold Hid; rw [be_take k far j hlt', pow8]
        have q0 : 0 ≤ far / 2 ^ (8 * (k - 1 - j)) % 256 := by omega
        have q1 : far / 2 ^ (8 * (k - 1 - j)) % 256 ≤ 255 := by omega
        go_wp2_with (at_builtin; refine push_fits _ (far / 2 ^ (8 * (k - 1 - j)) % 256) rfl (.tmp 31) (.tmp 40) rfl base g (n + 1 + j) cap _ rfl hr rfl q0 q1 (by omega) ?_)
        intro w3 h3 b3
        have hB3 := hB.trans b3
        clear hr hB b3
        go_wp2
        go_roundw
        case rel => exact ⟨j + 1, by omega, by go_num, rfl, by rw [BT.out]; exact h3, hB3⟩
        case measure => simp [intOf]; omega
      · obtain rfl : j = k := by omega
        have e1 : n + 1 + j = n + (1 + j) := by omega
        have e2 : l ++ (192 + (j : Int) - 1) :: (be j far).take j = l ++ numB x := by
          rw [NB.out, List.take_of_length_le (by rw [be_len]; omega)]
          have : 192 + (j : Int) - 1 = 191 + j := by omega
          rw [this]
        rw [e2, e1] at hr
        have HE := hid e1
        clear e2 e1
        go_wp2
        go_ret
        exact ⟨retv (congrArg (fun m => Value.slice (some ⟨g, 0, none⟩) m cap) HE.out), hr, hB⟩

end Go.Proofs.Ythkbddnkcljjpaa
