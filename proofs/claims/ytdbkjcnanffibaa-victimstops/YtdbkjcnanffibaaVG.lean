/-
  Contracts of vec: Share, Less.
-/
import Derived.Test.YtdbkjcnanffibaaVF
import Derived.Deep.RegionHeld3
import Derived.Deep.DeepCutAuto
import Derived.Deep.CutBlock
namespace Go.Proofs.Ytdbkjcnanffibaa
open Go.RowKit Go.Shelf
set_option linter.unusedVariables false

/-- The dominant share of amounts. -/
def dom (c m d k : Int) : Int × Int := if 0 < fc (shr m k) (shr c d) then shr m k else shr c d
theorem shr_first {p q : Int} (hp : okp p) (hq : okp q) : 0 < fc (shr p q) (-1, 1) := by
  unfold okp at hp hq
  unfold shr
  split
  · unfold fc ord; simp only; split
    · omega
    · split
      · omega
      · split <;> omega
  · split
    · decide
    · decide
theorem gfold_dom {c m d k : Int} (o1 : okp c ∧ okp d) (o2 : okp m ∧ okp k) : gfold [⟨(c, d), o1⟩, ⟨(m, k), o2⟩] = dom c m d k := by
  have h := shr_first o1.1 o1.2
  unfold gfold dom
  simp only [List.foldl, gstep]
  rw [if_pos h]
theorem dom_any (c m d k : Int) (o1 : okp c ∧ okp d) (o2 : okp m ∧ okp k) (w : World) :
    Calls Try.prog 65 #[.agg #[.int .i64 c, .int .i64 m], .agg #[.int .i64 d, .int .i64 k]] w fun e W' =>
      e = .returned (.agg #[.int .i64 (dom c m d k).1, .int .i64 (dom c m d k).2]) ∧ Below w.heap.size w W' := by
  have h := dominant_any c m d k o1 o2 w
  rw [gfold_dom] at h
  exact h
theorem dom_fr {c m d k : Int} (o1 : okp c ∧ okp d) (o2 : okp m ∧ okp k) : Fr (dom c m d k) ∧ 0 ≤ (dom c m d k).1 ∧ (dom c m d k).2 ≤ 1099511627776 := by
  unfold dom
  split
  · refine ⟨(shr_fr o2.1 o2.2).1, (shr_fr o2.1 o2.2).2, ?_⟩
    have := o2.2.2; unfold shr; split
    · exact this
    · split <;> simp
  · refine ⟨(shr_fr o1.1 o1.2).1, (shr_fr o1.1 o1.2).2, ?_⟩
    have := o1.2.2; unfold shr; split
    · exact this
    · split <;> simp

/-- Share's three answers. -/
def shv (c m d k : Int) : Int × Int × Int := if okv (c, m) = true ∧ okv (d, k) = true then ((dom c m d k).1, (dom c m d k).2, 0) else (0, 0, 1)

theorem ret3 {k l j : IntKind} {a b c d e f : Int} (h : a = d) (g : b = e) (i : c = f) : Ending.returned (.tuple #[.int k a, .int l b, .int j c]) = .returned (.tuple #[.int k d, .int l e, .int j f]) := by rw [h, g, i]

theorem row2_three {w : World} {B : Nat} {c m d k x y : Int} (h0 : w.cell? ⟨B, 0, none⟩ = some (.int .i64 c)) (h1 : w.cell? ⟨B, 1, none⟩ = some (.int .i64 m)) (h2 : w.cell? ⟨B, 2, none⟩ = some (.int .i64 d)) (h3 : w.cell? ⟨B, 3, none⟩ = some (.int .i64 k)) (h4 : w.cell? ⟨B, 4, none⟩ = some (.int .i64 x)) (h5 : w.cell? ⟨B, 5, none⟩ = some (.int .i64 y)) : Row2 w B 3 [(c, m), (d, k), (x, y)] := by
  refine ⟨rfl, by omega, fun j hj => ?_⟩
  obtain rfl | rfl | rfl : j = 0 ∨ j = 1 ∨ j = 2 := by omega
  · exact ⟨h0, h1⟩
  · exact ⟨h2, h3⟩
  · exact ⟨h4, h5⟩

theorem mul_bd {b x : Int} (b0 : 0 ≤ b) (b1 : b ≤ 1099511627776) (x0 : 1 ≤ x) (x1 : x ≤ 1048576) : 0 ≤ b * x ∧ b * x ≤ 1152921504606846976 := by
  refine ⟨Int.mul_nonneg b0 (by omega), ?_⟩
  have := Int.mul_le_mul b1 x1 (by omega) (show (0 : Int) ≤ 1099511627776 by omega)
  omega

/-- Less of amounts and weights. -/
def lev (c m x d k y p q : Int) : Int := fc ((dom c m p q).1, (dom c m p q).2 * x) ((dom d k p q).1, (dom d k p q).2 * y)
/-- Are all arguments of Less as they may be? -/
def leok (c m x d k y p q : Int) : Bool := [(c, m), (d, k), (p, q)].all okv && (okw x && okw y)

set_option maxHeartbeats 4000000 in
theorem less_no (c m x d k y p q : Int) (h : leok c m x d k y p q = false) (w : World) :
    Calls Try.prog 55 #[.agg #[.int .i64 c, .int .i64 m], .int .i64 x, .agg #[.int .i64 d, .int .i64 k], .int .i64 y, .agg #[.int .i64 p, .int .i64 q]] w fun e w' =>
      e = .returned (.tuple #[.int .i64 0, .int .i64 1]) ∧ Below w.heap.size w w' := by
  cases hok : [(c, m), (d, k), (p, q)].all okv
  · have HK := hid hok
    clear hok h
    go_enter Try.func55, Try.ntmps55
    go_wp2_with fail
    refine (amounts_any _ 3 3 [(c, m), (d, k), (p, q)] _ (row2_three (by simp [go_sem]) (by simp [go_sem]) (by simp [go_sem]) (by simp [go_sem]) (by simp [go_sem]) (by simp [go_sem]))).mono ?_
    rintro e w1 ⟨rfl, h1⟩
    have hB1 : Below w.heap.size w w1 := Below.trans (by repeat (first | exact Below.refl _ _ | assumption | refine Below.alloc ?_ (by simp <;> omega) _ | refine Below.setCell ?_ (by simp <;> omega) _ | refine Below.drew ?_ | refine below_drewN ?_ _)) (h1.mono (by simp <;> omega))
    rw [HK.out]
    go_wp2
    go_ret2
    exact ⟨rfl, hB1⟩
  · have HW : Hid ((okw x && okw y) = false) := by unfold leok at h; rw [hok] at h; simpa [Hid] using h
    have HK := hid hok
    clear hok h
    go_enter Try.func55, Try.ntmps55
    go_wp2_with fail
    refine (amounts_any _ 3 3 [(c, m), (d, k), (p, q)] _ (row2_three (by simp [go_sem]) (by simp [go_sem]) (by simp [go_sem]) (by simp [go_sem]) (by simp [go_sem]) (by simp [go_sem]))).mono ?_
    rintro e w1 ⟨rfl, h1⟩
    have hB1 : Below w.heap.size w w1 := Below.trans (by repeat (first | exact Below.refl _ _ | assumption | refine Below.alloc ?_ (by simp <;> omega) _ | refine Below.setCell ?_ (by simp <;> omega) _ | refine Below.drew ?_ | refine below_drewN ?_ _)) (h1.mono (by simp <;> omega))
    rw [HK.out]
    go_wp2_with fail
    refine (weights_any _ 2 x y _ (by simp [go_sem]) (by simp [go_sem])).mono ?_
    rintro e w2 ⟨rfl, rfl⟩
    rw [HW.out]
    go_wp2
    go_ret2
    exact ⟨rfl, hB1.alloc hB1.size _⟩

set_option maxHeartbeats 4000000 in
theorem less_yes (c m x d k y p q : Int) (h : leok c m x d k y p q = true) (w : World) :
    Calls Try.prog 55 #[.agg #[.int .i64 c, .int .i64 m], .int .i64 x, .agg #[.int .i64 d, .int .i64 k], .int .i64 y, .agg #[.int .i64 p, .int .i64 q]] w fun e w' =>
      e = .returned (.tuple #[.int .i64 (lev c m x d k y p q), .int .i64 0]) ∧ Below w.heap.size w w' := by
  obtain ⟨hok, hw⟩ : [(c, m), (d, k), (p, q)].all okv = true ∧ (okw x && okw y) = true := by unfold leok at h; simpa using h
  obtain ⟨o1, o2, o3⟩ : okv (c, m) = true ∧ okv (d, k) = true ∧ okv (p, q) = true := by simpa using hok
  obtain ⟨a1, a2⟩ := okv_true o1
  obtain ⟨a3, a4⟩ := okv_true o2
  obtain ⟨a5, a6⟩ := okv_true o3
  have hx : 1 ≤ x ∧ x ≤ 1048576 := by have : okw x = true := by simp at hw; exact hw.1
                                      simpa [okw] using this
  have hy : 1 ≤ y ∧ y ≤ 1048576 := by have : okw y = true := by simp at hw; exact hw.2
                                      simpa [okw] using this
  have HK := hid hok
  have HW := hid hw
  have f1 := dom_fr ⟨a1, a5⟩ ⟨a2, a6⟩
  have f2 := dom_fr ⟨a3, a5⟩ ⟨a4, a6⟩
  have m1 := mul_bd f1.1.2.1 f1.2.2 hx.1 hx.2
  have m2 := mul_bd f2.1.2.1 f2.2.2 hy.1 hy.2
  have g1 : Fr ((dom c m p q).1, (dom c m p q).2 * x) := ⟨f1.1.1, m1.1, Int.le_trans m1.2 (by omega)⟩
  have g2 : Fr ((dom d k p q).1, (dom d k p q).2 * y) := ⟨f2.1.1, m2.1, Int.le_trans m2.2 (by omega)⟩
  have C1 := hid (fun w => dom_any c m p q ⟨a1, a5⟩ ⟨a2, a6⟩ w)
  have C2 := hid (fun w => dom_any d k p q ⟨a3, a5⟩ ⟨a4, a6⟩ w)
  have C5 : Hid (∀ w : World, Calls Try.prog 67 #[.agg #[.int .i64 (dom c m p q).1, .int .i64 ((dom c m p q).2 * x)], .agg #[.int .i64 (dom d k p q).1, .int .i64 ((dom d k p q).2 * y)]] w fun e w' => e = .returned (.int .i64 (lev c m x d k y p q)) ∧ Below w.heap.size w w') := fun w => fcmp_any _ _ g1 g2 w
  generalize lev c m x d k y p q = L at *
  generalize dom c m p q = D1 at *
  generalize dom d k p q = D2 at *
  have C3 := hid (fun w => divide_any D1.1 D1.2 x (by omega) (by omega) w)
  have C4 := hid (fun w => divide_any D2.1 D2.2 y (by omega) (by omega) w)
  clear hok hw h o1 o2 o3 f1 f2 m1 m2 g1 g2 a1 a2 a3 a4 a5 a6 hx hy
  go_enter Try.func55, Try.ntmps55
  go_wp2_with fail
  refine (amounts_any _ 3 3 [(c, m), (d, k), (p, q)] _ (row2_three (by simp [go_sem]) (by simp [go_sem]) (by simp [go_sem]) (by simp [go_sem]) (by simp [go_sem]) (by simp [go_sem]))).mono ?_
  rintro e w1 ⟨rfl, h1⟩
  have c0 := keepc h1 (a := ⟨w.heap.size, 0, none⟩) (v := .int .i64 c) (by simp [go_sem])
  have c1 := keepc h1 (a := ⟨w.heap.size, 1, none⟩) (v := .int .i64 m) (by simp [go_sem])
  have c2 := keepc h1 (a := ⟨w.heap.size + 1, 0, none⟩) (v := .int .i64 d) (by simp [go_sem])
  have c3 := keepc h1 (a := ⟨w.heap.size + 1, 1, none⟩) (v := .int .i64 k) (by simp [go_sem])
  have c4 := keepc h1 (a := ⟨w.heap.size + 1 + 1, 0, none⟩) (v := .int .i64 p) (by simp [go_sem])
  have c5 := keepc h1 (a := ⟨w.heap.size + 1 + 1, 1, none⟩) (v := .int .i64 q) (by simp [go_sem])
  have hB1 : Below w.heap.size w w1 := Below.trans (by repeat (first | exact Below.refl _ _ | assumption | refine Below.alloc ?_ (by simp <;> omega) _ | refine Below.setCell ?_ (by simp <;> omega) _ | refine Below.drew ?_ | refine below_drewN ?_ _)) (h1.mono (by simp <;> omega))
  rw [HK.out]
  go_wp2_with fail
  refine (weights_any _ 2 x y _ (by simp [go_sem]) (by simp [go_sem])).mono ?_
  rintro e w2 ⟨rfl, rfl⟩
  rw [HW.out]
  have hB : Below w.heap.size w (w1.alloc (.cells #[.int .i64 x, .int .i64 y] 2)) := hB1.alloc hB1.size _
  have kk : Below w1.heap.size w1 (w1.alloc (.cells #[.int .i64 x, .int .i64 y] 2)) := (by repeat (first | exact Below.refl _ _ | assumption | refine Below.alloc ?_ (by simp <;> omega) _ | refine Below.setCell ?_ (by simp <;> omega) _ | refine Below.drew ?_ | refine below_drewN ?_ _))
  have e0 := keepc kk c0; have e1 := keepc kk c1; have e2 := keepc kk c2; have e3 := keepc kk c3; have e4 := keepc kk c4; have e5 := keepc kk c5
  have EE : Hid (_ ∧ _ ∧ _ ∧ _ ∧ _ ∧ _) := ⟨e0, e1, e2, e3, e4, e5⟩
  have HB := hid hB
  clear e0 e1 e2 e3 e4 e5 c0 c1 c2 c3 c4 c5 hB1 hB kk h1
  go_upto_region 3 with fail
  generalize w1.alloc (.cells #[.int .i64 x, .int .i64 y] 2) = W at *
  obtain ⟨c0, c1, c2, c3, c4, c5⟩ := EE.out
  have hB := HB.out.drew
  clear HK HW HB
  go_region_held3 (fun w' => w'.cell? ⟨w.heap.size, 0, none⟩ = some (.int .i64 c) ∧ w'.cell? ⟨w.heap.size, 1, none⟩ = some (.int .i64 m) ∧ w'.cell? ⟨w.heap.size + 1, 0, none⟩ = some (.int .i64 d) ∧ w'.cell? ⟨w.heap.size + 1, 1, none⟩ = some (.int .i64 k) ∧ w'.cell? ⟨w.heap.size + 1 + 1, 0, none⟩ = some (.int .i64 p) ∧ w'.cell? ⟨w.heap.size + 1 + 1, 1, none⟩ = some (.int .i64 q)) (exact ⟨c0, c1, c2, c3, c4, c5⟩)
    (first
    | (go_at_call 65; first | ((with_reducible refine (C1.out _).mono ?_); rintro e w' ⟨rfl, hq⟩; have c0 := keepc hq c0; have c1 := keepc hq c1; have c2 := keepc hq c2; have c3 := keepc hq c3; have c4 := keepc hq c4; have c5 := keepc hq c5; have hB := hB.trans (hq.mono hB.size)) | ((with_reducible refine (C2.out _).mono ?_); rintro e w' ⟨rfl, hq⟩; have c0 := keepc hq c0; have c1 := keepc hq c1; have c2 := keepc hq c2; have c3 := keepc hq c3; have c4 := keepc hq c4; have c5 := keepc hq c5; have hB := hB.trans (hq.mono hB.size)))
    | (go_at_call 66; first | ((with_reducible refine (C3.out _).mono ?_); rintro e w' ⟨rfl, hq⟩; have c0 := keepc hq c0; have c1 := keepc hq c1; have c2 := keepc hq c2; have c3 := keepc hq c3; have c4 := keepc hq c4; have c5 := keepc hq c5; have hB := hB.trans (hq.mono hB.size)) | ((with_reducible refine (C4.out _).mono ?_); rintro e w' ⟨rfl, hq⟩; have c0 := keepc hq c0; have c1 := keepc hq c1; have c2 := keepc hq c2; have c3 := keepc hq c3; have c4 := keepc hq c4; have c5 := keepc hq c5; have hB := hB.trans (hq.mono hB.size)))
    | (go_at_call 67; (with_reducible refine (C5.out _).mono ?_); rintro e w' ⟨rfl, hq⟩; have c0 := keepc hq c0; have c1 := keepc hq c1; have c2 := keepc hq c2; have c3 := keepc hq c3; have c4 := keepc hq c4; have c5 := keepc hq c5; have hB := hB.trans (hq.mono hB.size)))
  all_goals
    go_wp2
    go_ret2
    exact ⟨rfl, hB⟩

end Go.Proofs.Ytdbkjcnanffibaa
