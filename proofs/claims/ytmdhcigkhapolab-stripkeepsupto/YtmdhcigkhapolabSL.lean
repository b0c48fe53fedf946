/-
  Contracts of strip: one byte put right.
-/
import Derived.Test.YtmdhcigkhapolabSK
namespace Go.Proofs.Ytmdhcigkhapolab
open Go.RowKit Go.Deep
set_option linter.unusedVariables false

/-- The byte with so much more; what puts the byte at a place right; the first place that is put right. -/
def opt (x u : Int) : Option Int := if 0 ≤ x + u ∧ x + u ≤ 255 then some (x + u) else if 0 ≤ x + u - 65521 ∧ x + u - 65521 ≤ 255 then some (x + u - 65521) else none
def hitB (l : List Int) (u v : Int) (i : Nat) : Option Int := if u * ((i : Int) + 1) % 65521 = v then opt (l[i]?.getD 0) u else none
def rp (l : List Int) (u v : Int) : Option (Nat × Int) := if u = 0 then none else (List.range l.length).findSome? fun i => (hitB l u v i).map fun y => (i, y)

theorem find_none {f : Nat → Option (Nat × Int)} {n : Nat} (h : ∀ i, i < n → f i = none) : (List.range n).findSome? f = none :=
  List.findSome?_eq_none_iff.2 fun i hi => h i (List.mem_range.1 hi)
theorem find_at {f : Nat → Option (Nat × Int)} {n k : Nat} {z : Nat × Int} (hk : k < n) (h : ∀ i, i < k → f i = none) (hz : f k = some z) : (List.range n).findSome? f = some z := by
  have e : List.range n = List.range k ++ (k :: (List.range (n - k - 1)).map (k + 1 + ·)) := by
    have : n = k + (1 + (n - k - 1)) := by omega
    rw [this, List.range_add, show k + (1 + (n - k - 1)) - k - 1 = n - k - 1 by omega]
    congr 1
    rw [Nat.add_comm 1, List.range_succ_eq_map]
    simp [Function.comp_def, Nat.add_comm, Nat.add_left_comm]
  rw [e, List.findSome?_append, find_none h]
  simp [hz]

theorem Row.cellAt {base : Nat} {w : World} {g n cap : Nat} {l : List Int} (h : Row base w g n cap l) (j : Nat) (hj : j < n) : w.cell? ⟨g, j, none⟩ = some (.int .u8 (l[j]?.getD 0)) := by
  have := h.1.cellAt j (by omega)
  rw [this, List.getElem?_map, List.getElem?_eq_getElem (show j < l.length by rw [h.len]; exact hj)]
  simp
theorem Row.frozenAt {base : Nat} {w : World} {g n cap : Nat} {l : List Int} (h : Row base w g n cap l) (j : Nat) : w.frozen? ⟨g, j, none⟩ = false := h.1.frozenAt j
theorem Row.stored {base : Nat} {w : World} {g n cap : Nat} {l : List Int} (h : Row base w g n cap l) (j : Nat) (y : Int) (y0 : 0 ≤ y) (y1 : y ≤ 255) : Row base (w.setCell ⟨g, j, none⟩ (.int .u8 y)) g n cap (l.set j y) := by
  refine ⟨by rw [List.map_set]; exact (h.1.stored j _).1, fun x hx => ?_⟩
  rcases List.mem_or_eq_of_mem_set hx with hx | rfl
  · exact h.2 x hx
  · exact ⟨y0, y1⟩

/-- What is answered, and what stands there then. -/
def rpI : Option (Nat × Int) → Int | some (i, _) => i | none => 0
def rpO : Option (Nat × Int) → Bool | some _ => true | none => false
def rpL (l : List Int) : Option (Nat × Int) → List Int | some (i, y) => l.set i y | none => l

theorem ret2b {a x : Int} {b y : Bool} (h : x = a) (g : y = b) : Ending.returned (.tuple #[.int .i64 a, .bool b]) = .returned (.tuple #[.int .i64 x, .bool y]) := by cases h; cases g; rfl

set_option maxHeartbeats 1000000 in
theorem repair_zero (base g n cap : Nat) (l : List Int) (v : Int) (w : World) (hown : Row base w g n cap l) :
    Calls Try.prog 44 #[.slice (some ⟨g, 0, none⟩) n cap, .agg #[.int .i64 0, .int .i64 v]] w fun e w' => e = .returned (.tuple #[.int .i64 0, .bool false]) ∧ Row base w' g n cap l ∧ Below base w w' := by
  have A := hid (fun o => hown.below (below_alloc' w o))
  have hlt := hown.lt
  clear hown
  go_enter Try.func44, Try.ntmps44
  go_wp2
  go_ret2
  exact ⟨rfl, A.out _, (below_alloc' w _).mono (by omega)⟩

set_option maxHeartbeats 4000000 in
theorem repair_main (base g n cap : Nat) (l : List Int) (u v : Int) (w : World) (hown : Row base w g n cap l) (hn : n ≤ 60000) (u0 : 1 ≤ u) (u1 : u < 65521) (R : Option (Nat × Int)) (HR : Hid (R = (List.range n).findSome? fun i => (hitB l u v i).map fun y => (i, y))) :
    Calls Try.prog 44 #[.slice (some ⟨g, 0, none⟩) n cap, .agg #[.int .i64 u, .int .i64 v]] w fun e w' => e = .returned (.tuple #[.int .i64 (rpI R), .bool (rpO R)]) ∧ Row base w' g n cap (rpL l R) ∧ Below base w w' := by
  have A := hid (hown.below (below_alloc' w (.cells #[.int .i64 u, .int .i64 v] 59)))
  have hlt := hown.lt
  have BA : Hid (Below base w (w.alloc (.cells #[.int .i64 u, .int .i64 v] 59))) := (below_alloc' w _).mono (by omega)
  have hbb := hown.2
  have i0 : ∀ (x y : Int) w, (Instr.index 59 (.agg #[.int .i64 x, .int .i64 y]) (.int .i64 0)).run Try.prog w = .ok (.int .i64 x) w := fun _ _ _ => by kernel_rfl
  have i1 : ∀ (x y : Int) w, (Instr.index 59 (.agg #[.int .i64 x, .int .i64 y]) (.int .i64 1)).run Try.prog w = .ok (.int .i64 y) w := fun _ _ _ => by kernel_rfl
  have tu : (u == 0) = false := by simp; omega
  have HO := hid hown
  clear hown
  go_enter Try.func44, Try.ntmps44
  go_wp2_with fail
  go_loop [17] (fun i => ∃ k : Nat, k ≤ n ∧ i = .int .i64 k ∧ Hid (∀ i, i < k → hitB l u v i = none)) (fun i => n - (intOf i).toNat)
  case atStart => exact ⟨0, by omega, rfl, fun i hi => absurd hi (by omega)⟩
  case round =>
    obtain ⟨k, hk, rfl, ha⟩ := hrel
    by_cases hlt' : k < n
    · have cx := A.out.cellAt k hlt'
      have fx := A.out.frozenAt k
      have x01 := hbb.getD k
      have NX : Hid (hitB l u v k = none → ∀ i, i < k + 1 → hitB l u v i = none) := fun h i hi => by
        by_cases e : i = k
        · rw [e]; exact h
        · exact ha.out i (by omega)
      have RX : Hid (∀ y, hitB l u v k = some y → R = some (k, y)) := fun y hy => by
        rw [HR.out]
        exact find_at hlt' (fun i hi => by rw [ha.out i hi]; rfl) (by rw [hy]; rfl)
      have ST := hid (fun y y0 y1 o => (HO.out.stored k y y0 y1).below (below_alloc' _ o))
      have SB : Hid (∀ (y : Int) (o : Obj), Below base w ((w.setCell ⟨g, k, none⟩ (.int .u8 y)).alloc o)) := fun y o => ((Below.refl base w).setCell hlt.1 _).trans ((below_alloc' _ o).mono (by simp; omega))
      have ub : 0 ≤ u * ((k : Int) + 1) ∧ u * ((k : Int) + 1) ≤ 3931260000 := by
        refine ⟨Int.mul_nonneg (by omega) (by omega), ?_⟩
        have : u * ((k : Int) + 1) ≤ 65521 * 60000 := Int.mul_le_mul (by omega) (by omega) (by omega) (by omega)
        omega
      obtain ⟨x0, x1⟩ := x01
      obtain ⟨ub0, ub1⟩ := ub
      have HH : Hid (hitB l u v k = if u * ((k : Int) + 1) % 65521 = v then opt (l[k]?.getD 0) u else none) := rfl
      generalize l[k]?.getD 0 = x at *
      have A' := A
      clear A
      by_cases hc : u * ((k : Int) + 1) % 65521 = v
      · have tc : ((u * ((k : Int) + 1) % 65521) != v) = false := by simp [hc]
        have H2 : hitB l u v k = opt x u := by rw [HH.out, if_pos hc]
        clear HH hc
        unfold opt at H2
        by_cases h1 : 0 ≤ x + u ∧ x + u ≤ 255
        · rw [if_pos h1] at H2
          obtain ⟨h10, h11⟩ := h1
          have RR := hid (RX.out _ H2)
          have t1 : decide (0 ≤ x + u) = true := by simp; omega
          have t2 : decide (x + u ≤ 255) = true := by simp; omega
          clear H2 RX NX
          go_wp2_with fail
          go_loop [40] (fun i => i = .int .i64 0) (fun i => 0)
          case atStart => rfl
          case round =>
            obtain rfl := hrel
            go_wp2
            go_ret2
            exact ⟨ret2b (by rw [RR.out]; rfl) (by rw [RR.out]; rfl), by rw [RR.out]; exact ST.out _ (by omega) (by omega) _, SB.out _ _⟩
        · rw [if_neg h1] at H2
          by_cases h2 : 0 ≤ x + u - 65521 ∧ x + u - 65521 ≤ 255
          · rw [if_pos h2] at H2
            obtain ⟨h20, h21⟩ := h2
            have RR := hid (RX.out _ H2)
            have t1 : decide (0 ≤ x + u) = true := by simp; omega
            have t2 : decide (x + u ≤ 255) = false := by simp; omega
            have t3 : decide (0 ≤ x + u - 65521) = true := by simp; omega
            have t3' : decide (65521 ≤ x + u) = true := by simp; omega
            have t4 : decide (x + u - 65521 ≤ 255) = true := by simp; omega
            clear H2 RX NX h1
            go_wp2_with fail
            go_loop [40] (fun i => ∃ j : Nat, j ≤ 1 ∧ i = .int .i64 j) (fun i => 2 - (intOf i).toNat)
            case atStart => exact ⟨0, by omega, rfl⟩
            case round =>
              obtain ⟨j, hj, rfl⟩ := hrel
              obtain rfl | rfl : j = 0 ∨ j = 1 := by omega
              · go_wp2
                go_round
                case rel => exact ⟨1, by omega, by go_num⟩
                case measure => simp [intOf]
              · go_wp2
                go_ret2
                exact ⟨ret2b (by rw [RR.out]; rfl) (by rw [RR.out]; rfl), by rw [RR.out]; exact ST.out _ (by omega) (by omega) _, SB.out _ _⟩
          · rw [if_neg h2] at H2
            have N := hid (NX.out H2)
            have t1 : decide (0 ≤ x + u) = true := by simp; omega
            have t2 : decide (x + u ≤ 255) = false := by simp; omega
            have t5 : Hid (decide (0 ≤ x + u - 65521) = false ∨ (decide (0 ≤ x + u - 65521) = true ∧ decide (x + u - 65521 ≤ 255) = false)) := by
              by_cases h3 : 0 ≤ x + u - 65521
              · exact .inr ⟨by simp; omega, by simp; omega⟩
              · exact .inl (by simp; omega)
            have x255 : x + u - 65521 < 0 := by omega
            have t3 : decide (0 ≤ x + u - 65521) = false := by simp; omega
            have t3' : decide (65521 ≤ x + u) = false := by simp; omega
            clear H2 RX NX h1 h2 t5
            go_wp2_with fail
            go_loop [40] (fun i => ∃ j : Nat, j ≤ 2 ∧ i = .int .i64 j) (fun i => 2 - (intOf i).toNat)
            case atStart => exact ⟨0, by omega, rfl⟩
            case round =>
              obtain ⟨j, hj, rfl⟩ := hrel
              obtain rfl | rfl | rfl : j = 0 ∨ j = 1 ∨ j = 2 := by omega
              · go_wp2
                go_round
                case rel => exact ⟨1, by omega, by go_num⟩
                case measure => simp [intOf]
              · go_wp2
                go_round
                case rel => exact ⟨2, by omega, by go_num⟩
                case measure => simp [intOf]
              · go_wp2
                go_round
                case rel => exact ⟨k + 1, by omega, by go_num, N.out⟩
                case measure => simp [intOf]; omega
      · have tc : ((u * ((k : Int) + 1) % 65521) != v) = true := by simpa using hc
        have N := hid (NX.out (by rw [HH.out, if_neg hc]))
        clear HH hc RX NX
        go_wp2
        go_round
        case rel => exact ⟨k + 1, by omega, by go_num, N.out⟩
        case measure => simp [intOf]; omega
    · obtain rfl : k = n := by omega
      have RR : Hid (R = none) := by
        unfold Hid
        rw [HR.out]
        exact find_none (fun i hi => by rw [ha.out i hi]; rfl)
      go_wp2
      go_ret2
      exact ⟨ret2b (by rw [RR.out]; rfl) (by rw [RR.out]; rfl), by rw [RR.out]; exact A.out, BA.out⟩

theorem repair_any (base g n cap : Nat) (l : List Int) (u v : Int) (w : World) (hown : Row base w g n cap l) (hn : n ≤ 60000) (u0 : 0 ≤ u) (u1 : u < 65521) :
    Calls Try.prog 44 #[.slice (some ⟨g, 0, none⟩) n cap, .agg #[.int .i64 u, .int .i64 v]] w fun e w' => e = .returned (.tuple #[.int .i64 (rpI (rp l u v)), .bool (rpO (rp l u v))]) ∧ Row base w' g n cap (rpL l (rp l u v)) ∧ Below base w w' := by
  by_cases hu : u = 0
  · subst hu
    exact repair_zero base g n cap l v w hown
  · refine repair_main base g n cap l u v w hown hn (by omega) u1 _ ?_
    unfold Hid rp
    rw [if_neg hu, hown.len]

end Go.Proofs.Ytmdhcigkhapolab
