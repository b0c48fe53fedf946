/-
  Contracts of victim: sums of leases.
-/
import Derived.Test.YtdbkjcnanffibaaUA
import Derived.Deep.RegionHeld
import Derived.Deep.Cut
import Derived.Deep.RegionHeld3
import Derived.BigQuiet
namespace Go.Proofs.Ytdbkjcnanffibaa
open Go.RowKit Go.Deep Go.Maps
set_option linter.unusedVariables false
set_option linter.unusedSimpArgs false

/-- What 'add' answers. -/
def AnsU (lo : Nat) (w : World) (v : Value) (er : Int) (l : List Le) : Prop :=
  (er ≠ 0 ∧ v = .map none) ∨ (er = 0 ∧ ∃ b, v = .map (some b) ∧ lo ≤ b ∧ UM w b l.length (fun q => hasT l q l.length) (fun q => useT l q l.length))
theorem gdB_at {l : List Le} (h : ∀ j, j < l.length → (la l j).gd = true) : gdB l = true := by
  unfold gdB
  rw [List.all_eq_true]
  intro x hx
  obtain ⟨j, hj, rfl⟩ := List.mem_iff_getElem.1 hx
  have := h j hj
  unfold la at this
  rwa [List.getElem?_eq_getElem hj] at this
theorem gdB_no {l : List Le} {j : Nat} (h : j < l.length) (e : (la l j).gd = false) : gdB l = false := by
  unfold gdB
  rw [List.all_eq_false]
  exact ⟨_, la_mem h, by simp [e]⟩
theorem ret_u {v : Value} {a b : Int} (h : a = b) : Ending.returned (.tuple #[v, .int .i64 b]) = .returned (.tuple #[v, .int .i64 a]) := by rw [h]
theorem gdB_one {l : List Le} (h : gdB l = true) {j : Nat} (hj : j < l.length) : okv (((la l j).sl : Int), (la l j).me) = true := by
  unfold gdB at h
  rw [List.all_eq_true] at h
  have := h _ (la_mem hj)
  unfold Le.gd at this
  rw [Bool.and_eq_true] at this
  exact this.2
theorem le_gd_no {x : Le} (h : 64 < x.sl) : x.gd = false := by unfold Le.gd; rw [decide_eq_false (by omega)]; rfl
theorem le_gd_at {x : Le} (h : x.sl ≤ 64) : x.gd = okv ((x.sl : Int), x.me) := by unfold Le.gd; rw [decide_eq_true h]; rfl

set_option maxRecDepth 100000 in
set_option maxHeartbeats 4000000 in
theorem uadd_any (a : Option Addr) (len cap : Nat) (l : List Le) (w : World) (h : HoldsL w a len cap l) (hok : ∀ x ∈ l, x.okB) :
    Calls Try.prog 21 #[.slice a len cap] w fun e w' => ∃ v, e = .returned (.tuple #[v, .int .i64 (useErr l)]) ∧ AnsU w.heap.size w' v (useErr l) l ∧ Below w.heap.size w w' := by
  have HQ := hid h
  have HL := hid h.1.1
  have hcap := h.1.2.1
  have hcm := h.1.2.2.1
  have HO := hid hok
  clear h hok
  go_enter Try.func21, Try.ntmps21
  go_wp2_with fail
  go_loopw [13] (fun i wr => ∃ k : Nat, k ≤ len ∧ i = .int .i64 (k : Int) ∧ Hid (∀ j, j < k → (la l j).gd = true) ∧ Hid (Below w.heap.size w wr)) (fun i _ => len - (intOf i).toNat)
  case atStart => exact ⟨0, by omega, rfl, fun j hj => absurd hj (by omega), Below.refl _ _⟩
  case round =>
    obtain ⟨k, hk, rfl, hall, hB⟩ := hrel
    by_cases hlt : k < len
    · have hlt' : k < l.length := by rw [HL.out]; exact hlt
      obtain ⟨b, off, rfl, hbl, Rw⟩ := HQ.out.1.rowL (by omega)
      obtain ⟨d1, d2, d3, d4, d5, d6, d7, d8⟩ := Rw k hlt
      have c1 := keepc hB.out d1
      have c2 := keepc hB.out d2
      have c3 := keepc hB.out d3
      have c4 := keepc hB.out d4
      have c5 := keepc hB.out d5
      have c6 := keepc hB.out d6
      have c7 := keepc hB.out d7
      have c8 := keepc hB.out d8
      have ka : (0 : Int) ≤ (k : Int) := by omega
      have kb : (k : Int) < (len : Int) := by omega
      clear d1 d2 d3 d4 d5 d6 d7 d8 Rw
      by_cases h64 : 64 < (la l k).sl
      · have ER : Hid (useErr l = 1) := by unfold Hid useErr; rw [gdB_no hlt' (le_gd_no h64)]; rfl
        clear hall
        generalize hx : la l k = x at *
        clear hx
        obtain ⟨x1, x2, x3, sa, sl, sc, x5, x6, x7, x8, co⟩ := x
        simp only at h64 c1 c2 c3 c4 c5 c6 c7 c8
        have t : decide ((64 : Int) < (sl : Int)) = true := by simp; omega
        go_wp2_with fail
        go_ret2
        exact ⟨_, ret_u ER.out, .inl ⟨by rw [ER.out]; decide, rfl⟩, hB.out.alloc hB.out.size _⟩
      · have h64' : (la l k).sl ≤ 64 := by omega
        have t : decide ((64 : Int) < ((la l k).sl : Int)) = false := by simp; omega
        have GD := hid (le_gd_at h64')
        clear h64 h64'
        cases hv : okv (((la l k).sl : Int), (la l k).me)
        · have ER : Hid (useErr l = 1) := by unfold Hid useErr; rw [gdB_no hlt' (GD.out.trans hv)]; rfl
          have hc := chk_no hv
          have t2 : (chk ((la l k).sl : Int) (la l k).me != 0) = true := by rw [hc]; decide
          clear hall GD hv hc
          generalize hx : la l k = x at *
          clear hx
          obtain ⟨x1, x2, x3, sa, sl, sc, x5, x6, x7, x8, co⟩ := x
          simp only at t t2 c1 c2 c3 c4 c5 c6 c7 c8
          have CA := hid (fun W => check_any (sl : Int) x5 W)
          generalize chk (sl : Int) x5 = CK at *
          go_wp2_with fail
          refine (amount_any _ _ _ _ _ _ _ _ _ _ _).mono ?_
          rintro e y1 ⟨rfl, b1⟩
          have B1 := hid ((hB.out.alloc hB.out.size _).trans (b1.mono (hB.out.alloc hB.out.size _).size))
          go_wp2_with fail
          refine (CA.out _).mono ?_
          rintro e y2 ⟨rfl, b2⟩
          have B2 := hid (B1.out.trans (b2.mono B1.out.size))
          clear b1 b2 B1
          go_wp2_with fail
          go_ret2
          exact ⟨_, ret_u ER.out, .inl ⟨by rw [ER.out]; decide, rfl⟩, B2.out⟩
        · have hc := chk_ok hv
          have t2 : (chk ((la l k).sl : Int) (la l k).me != 0) = false := by rw [hc]; decide
          have AL : Hid (∀ j, j < k + 1 → (la l j).gd = true) := by
            intro j hj
            rcases Nat.lt_or_ge j k with h | h
            · exact hall.out j h
            · obtain rfl : j = k := by omega
              exact GD.out.trans hv
          clear hall GD hv hc
          generalize hx : la l k = x at *
          have HX := hid hx
          clear hx
          obtain ⟨x1, x2, x3, sa, sl, sc, x5, x6, x7, x8, co⟩ := x
          simp only at t t2 c1 c2 c3 c4 c5 c6 c7 c8
          have CA := hid (fun W => check_any (sl : Int) x5 W)
          generalize chk (sl : Int) x5 = CK at *
          go_wp2_with fail
          refine (amount_any _ _ _ _ _ _ _ _ _ _ _).mono ?_
          rintro e y1 ⟨rfl, b1⟩
          have B1 := hid ((hB.out.alloc hB.out.size _).trans (b1.mono (hB.out.alloc hB.out.size _).size))
          go_wp2_with fail
          refine (CA.out _).mono ?_
          rintro e y2 ⟨rfl, b2⟩
          have B2 := hid (B1.out.trans (b2.mono B1.out.size))
          clear b1 b2 B1
          go_wp2_with fail
          refine ⟨⟨k + 1, by omega, by go_num, AL, B2⟩, ?_⟩
          simp [intOf]; omega
    · obtain rfl : k = len := by omega
      have GB : Hid (gdB l = true) := gdB_at (fun j hj => hall.out j (by rw [HL.out] at hj; exact hj))
      have hmm := @run_makeMap Try.prog
      have BM : Hid (Below w.heap.size w (wr.alloc (.map #[] 0))) := hB.out.alloc hB.out.size _
      have UM0 : Hid (UM (wr.alloc (.map #[] 0)) wr.heap.size 0 (fun q => hasT l q 0) (fun q => useT l q 0)) := um_made wr
      have MB := hid hB.out.size
      have hcm2 : k ≤ 9223372036854775807 := by omega
      clear hall hB
      go_wp2_with fail
      generalize hM : wr.heap.size = M at *
      clear hM
      go_loopw [31] (fun i wz => ∃ j : Nat, j ≤ k ∧ i = .int .i64 (j : Int) ∧ Hid (fitT l j = true) ∧ Hid (UM wz M j (fun q => hasT l q j) (fun q => useT l q j)) ∧ Hid (Below w.heap.size w wz)) (fun i _ => k - (intOf i).toNat)
      case atStart => exact ⟨0, by omega, rfl, rfl, UM0, BM⟩
      case round =>
        obtain ⟨j, hj, rfl, hfit, hU, hB⟩ := hrel
        clear UM0 BM
        by_cases hlt : j < k
        · have hlt' : j < l.length := by rw [HL.out]; exact hlt
          obtain ⟨b, off, rfl, hbl, Rw⟩ := HQ.out.1.rowL (by omega)
          obtain ⟨d1, d2, d3, d4, d5, d6, d7, d8⟩ := Rw j hlt
          have c1 := keepc hB.out d1
          have c2 := keepc hB.out d2
          have c3 := keepc hB.out d3
          have c4 := keepc hB.out d4
          have c5 := keepc hB.out d5
          have c6 := keepc hB.out d6
          have c7 := keepc hB.out d7
          have c8 := keepc hB.out d8
          have ka : (0 : Int) ≤ (j : Int) := by omega
          have kb : (j : Int) < (k : Int) := by omega
          have hq : I64 (la l j).qu := (HO.out _ (la_mem hlt')).1
          have GD : okv (((la l j).sl : Int), (la l j).me) = true := gdB_one GB.out hlt'
          have G0 : okv (useT l (la l j).qu j) = true := fitT_ok hfit.out
          have NU : Hid (useT l (la l j).qu (j + 1) = ((useT l (la l j).qu j).1 + ((la l j).sl : Int), (useT l (la l j).qu j).2 + (la l j).me)) := by unfold Hid; show (if _ then _ else _) = _; rw [if_pos rfl]
          have NF : Hid (fitT l (j + 1) = (fitT l j && okv (useT l (la l j).qu (j + 1)))) := rfl
          have NT : Hid ((fun q => useT l q (j + 1)) = fun q => if (la l j).qu = q then ((useT l q j).1 + ((la l j).sl : Int), (useT l q j).2 + (la l j).me) else useT l q j) := rfl
          have NH : Hid ((fun q => hasT l q (j + 1)) = fun q => hasT l q j || decide (q = (la l j).qu)) := rfl
          clear d1 d2 d3 d4 d5 d6 d7 d8 Rw
          have VA_ : ∃ R1 R2 RE : Int, Hid (∀ W, Calls Try.prog 35 #[.agg #[.int .i64 (useT l (la l j).qu j).1, .int .i64 (useT l (la l j).qu j).2], .agg #[.int .i64 ((la l j).sl : Int), .int .i64 (la l j).me]] W fun e w' => e = .returned (.tuple #[.agg #[.int .i64 R1, .int .i64 R2], .int .i64 RE]) ∧ Below W.heap.size W w') ∧ Hid ((okv (useT l (la l j).qu (j + 1)) = true ∧ (R1, R2) = useT l (la l j).qu (j + 1) ∧ RE = 0) ∨ (okv (useT l (la l j).qu (j + 1)) = false ∧ RE = 2)) := by
            have e := rop_yes (a := useT l (la l j).qu j) (b := (((la l j).sl : Int), (la l j).me)) (s := ((useT l (la l j).qu j).1 + ((la l j).sl : Int), (useT l (la l j).qu j).2 + (la l j).me)) (by simp [GD, G0])
            have e1 := e.1
            rw [← NU.out] at e1
            refine ⟨_, _, _, fun W => vadd_any (useT l (la l j).qu j).1 (useT l (la l j).qu j).2 ((la l j).sl : Int) (la l j).me W, ?_⟩
            rw [← NU.out]
            show (_ ∨ _)
            rw [show ((useT l (la l j).qu j).1, (useT l (la l j).qu j).2) = useT l (la l j).qu j from rfl, e1]
            unfold rin
            cases hh : okv (useT l (la l j).qu (j + 1))
            · right; simp
            · left; simp
          obtain ⟨R1, R2, RE, VA_, HR⟩ := VA_
          have LK := hid (fun W (hW : UM W M j (fun q => hasT l q j) (fun q => useT l q j)) => hW.look hq)
          have PT := hid (fun W (hW : UM W M j (fun q => hasT l q j) (fun q => useT l q j)) => hW.put (c := R1) (m := R2) hq (by unfold maxLen; omega))
          clear G0 GD NU
          generalize hx : la l j = x at *
          have HX := hid hx
          clear hx
          obtain ⟨x1, x2, x3, sa, sl, sc, x5, x6, x7, x8, co⟩ := x
          simp only at c1 c2 c3 c4 c5 c6 c7 c8 hq LK PT NF NT NH VA_ HR HX
          generalize hS : useT l x2 (j + 1) = S1 at *
          have HS := hid hS
          clear hS
          generalize hg : useT l x2 j = g at *
          have HG := hid hg
          clear hg
          obtain ⟨g1, g2⟩ := g
          simp only at VA_ LK
          go_upto_region 11 with fail
          have BA := hid (hB.out.alloc hB.out.size (.cells #[.int .i64 x1, .int .i64 x2, .int .i64 x3, .slice sa sl sc, .int .i64 x5, .int .i64 x6, .int .i64 x7, .bool x8] 38))
          have U0 : UM (wr.alloc (.cells #[.int .i64 x1, .int .i64 x2, .int .i64 x3, .slice sa sl sc, .int .i64 x5, .int .i64 x6, .int .i64 x7, .bool x8] 38)) M j (fun q => hasT l q j) (fun q => useT l q j) := hU.out.alloc _
          have m0 : (wr.alloc (.cells #[.int .i64 x1, .int .i64 x2, .int .i64 x3, .slice sa sl sc, .int .i64 x5, .int .i64 x6, .int .i64 x7, .bool x8] 38)).cell? ⟨wr.heap.size, 0, none⟩ = some (.int .i64 x1) := by simp [go_sem]
          have m1 : (wr.alloc (.cells #[.int .i64 x1, .int .i64 x2, .int .i64 x3, .slice sa sl sc, .int .i64 x5, .int .i64 x6, .int .i64 x7, .bool x8] 38)).cell? ⟨wr.heap.size, 1, none⟩ = some (.int .i64 x2) := by simp [go_sem]
          have m2 : (wr.alloc (.cells #[.int .i64 x1, .int .i64 x2, .int .i64 x3, .slice sa sl sc, .int .i64 x5, .int .i64 x6, .int .i64 x7, .bool x8] 38)).cell? ⟨wr.heap.size, 2, none⟩ = some (.int .i64 x3) := by simp [go_sem]
          have m3 : (wr.alloc (.cells #[.int .i64 x1, .int .i64 x2, .int .i64 x3, .slice sa sl sc, .int .i64 x5, .int .i64 x6, .int .i64 x7, .bool x8] 38)).cell? ⟨wr.heap.size, 3, none⟩ = some (.slice sa sl sc) := by simp [go_sem]
          have m4 : (wr.alloc (.cells #[.int .i64 x1, .int .i64 x2, .int .i64 x3, .slice sa sl sc, .int .i64 x5, .int .i64 x6, .int .i64 x7, .bool x8] 38)).cell? ⟨wr.heap.size, 4, none⟩ = some (.int .i64 x5) := by simp [go_sem]
          have m5 : (wr.alloc (.cells #[.int .i64 x1, .int .i64 x2, .int .i64 x3, .slice sa sl sc, .int .i64 x5, .int .i64 x6, .int .i64 x7, .bool x8] 38)).cell? ⟨wr.heap.size, 5, none⟩ = some (.int .i64 x6) := by simp [go_sem]
          have m6 : (wr.alloc (.cells #[.int .i64 x1, .int .i64 x2, .int .i64 x3, .slice sa sl sc, .int .i64 x5, .int .i64 x6, .int .i64 x7, .bool x8] 38)).cell? ⟨wr.heap.size, 6, none⟩ = some (.int .i64 x7) := by simp [go_sem]
          have m7 : (wr.alloc (.cells #[.int .i64 x1, .int .i64 x2, .int .i64 x3, .slice sa sl sc, .int .i64 x5, .int .i64 x6, .int .i64 x7, .bool x8] 38)).cell? ⟨wr.heap.size, 7, none⟩ = some (.bool x8) := by simp [go_sem]
          clear hB hU c1 c2 c3 c4 c5 c6 c7 c8
          generalize hW0 : wr.alloc (.cells #[.int .i64 x1, .int .i64 x2, .int .i64 x3, .slice sa sl sc, .int .i64 x5, .int .i64 x6, .int .i64 x7, .bool x8] 38) = W0 at *
          clear hW0
          generalize hB0 : wr.heap.size = B0 at *
          clear hB0
          have BX := hid ((Below.refl W0.heap.size W0).drew)
          have TUP := hid (fun Y (hY : Below W0.heap.size W0 Y) => (⟨keepc hY m0, keepc hY m1, keepc hY m2, keepc hY m3, keepc hY m4, keepc hY m5, keepc hY m6, keepc hY m7, U0.below hY⟩ : (World.cell? Y ⟨B0, 0, none⟩ = some (.int .i64 x1) ∧ World.cell? Y ⟨B0, 1, none⟩ = some (.int .i64 x2) ∧ World.cell? Y ⟨B0, 2, none⟩ = some (.int .i64 x3) ∧ World.cell? Y ⟨B0, 3, none⟩ = some (.slice sa sl sc) ∧ World.cell? Y ⟨B0, 4, none⟩ = some (.int .i64 x5) ∧ World.cell? Y ⟨B0, 5, none⟩ = some (.int .i64 x6) ∧ World.cell? Y ⟨B0, 6, none⟩ = some (.int .i64 x7) ∧ World.cell? Y ⟨B0, 7, none⟩ = some (.bool x8) ∧ UM Y M j (fun q => hasT l q j) (fun q => useT l q j))))
          clear m0 m1 m2 m3 m4 m5 m6 m7
          refine wp_region_held_drew (S := fun w' => (World.cell? w' ⟨B0, 0, none⟩ = some (.int .i64 x1) ∧ World.cell? w' ⟨B0, 1, none⟩ = some (.int .i64 x2) ∧ World.cell? w' ⟨B0, 2, none⟩ = some (.int .i64 x3) ∧ World.cell? w' ⟨B0, 3, none⟩ = some (.slice sa sl sc) ∧ World.cell? w' ⟨B0, 4, none⟩ = some (.int .i64 x5) ∧ World.cell? w' ⟨B0, 5, none⟩ = some (.int .i64 x6) ∧ World.cell? w' ⟨B0, 6, none⟩ = some (.int .i64 x7) ∧ World.cell? w' ⟨B0, 7, none⟩ = some (.bool x8) ∧ UM w' M j (fun q => hasT l q j) (fun q => useT l q j))) (by kernel_rfl) (TUP.out _ BX.out) (fun hHeld => ?_)
          refine wpAnyH_take (i := 0) (v := .map (some M)) rfl (by kernel_rfl) (by kernel_rfl) (by kernel_rfl) (fun _ _ _ h => h) (Or.inl ⟨by rfl, ?_⟩) (by assumption) ?_
          · (intro w hSw;  (try dsimp only at hSw); go_simp)
          (try simp only [Act.put, List.getElem_toArray, List.getElem_cons_succ, List.getElem_cons_zero, List.setIfInBounds_toArray, List.set_cons_zero, List.set_cons_succ])
          refine wpAnyH_take (i := 1) (v := .pointer (some ⟨B0, 1, none⟩)) rfl (by kernel_rfl) (by kernel_rfl) (by kernel_rfl) (fun _ _ _ h => h) (Or.inl ⟨by rfl, ?_⟩) (by assumption) ?_
          · (intro w hSw;  (try dsimp only at hSw); go_simp)
          (try simp only [Act.put, List.getElem_toArray, List.getElem_cons_succ, List.getElem_cons_zero, List.setIfInBounds_toArray, List.set_cons_zero, List.set_cons_succ])
          refine wpAnyH_take (i := 2) (v := .int .i64 x2) rfl (by kernel_rfl) (by kernel_rfl) (by kernel_rfl) (fun _ _ _ h => h) (Or.inl ⟨by rfl, ?_⟩) (by assumption) ?_
          · (intro w hSw;  (try dsimp only at hSw); go_simp)
          (try simp only [Act.put, List.getElem_toArray, List.getElem_cons_succ, List.getElem_cons_zero, List.setIfInBounds_toArray, List.set_cons_zero, List.set_cons_succ])
          refine wpAnyH_take (i := 3) (v := .agg #[.int .i64 g1, .int .i64 g2]) rfl (by kernel_rfl) (by kernel_rfl) (by kernel_rfl) (fun _ _ _ h => h) (Or.inl ⟨by rfl, ?_⟩) (by assumption) ?_
          · (intro w hSw; have hlk := LK.out _ hSw.2.2.2.2.2.2.2.2; (try dsimp only at hSw); go_simp)
          (try simp only [Act.put, List.getElem_toArray, List.getElem_cons_succ, List.getElem_cons_zero, List.setIfInBounds_toArray, List.set_cons_zero, List.set_cons_succ])
          refine wpAnyH_take (i := 4) (v := .agg #[.int .i64 x1, .int .i64 x2, .int .i64 x3, .slice sa sl sc, .int .i64 x5, .int .i64 x6, .int .i64 x7, .bool x8]) rfl (by kernel_rfl) (by kernel_rfl) (by kernel_rfl) (fun _ _ _ h => h) (Or.inl ⟨by rfl, ?_⟩) (by assumption) ?_
          · (intro w hSw;  (try dsimp only at hSw); go_simp)
          (try simp only [Act.put, List.getElem_toArray, List.getElem_cons_succ, List.getElem_cons_zero, List.setIfInBounds_toArray, List.set_cons_zero, List.set_cons_succ])
          refine wpAnyH_ready (rs := [5, 10]) (by kernel_rfl) (by simp) ?_
          refine AllReadyH.cons rfl (fun K hK => ?_) (AllReadyH.cons rfl (fun K hK => ?_) AllReadyH.nil)
          · go_simp
            refine (amount_any _ _ _ _ _ _ _ _ _ _ _).mono ?_
            rintro e y1 ⟨rfl, b1⟩
            replace BX := hid (BX.out.trans (b1.mono BX.out.size))
            refine hK.out _ _ (TUP.out _ BX.out) (fun hHeld => ?_)
            clear hK K
            (try simp only [Act.put, List.getElem_toArray, List.getElem_cons_succ, List.getElem_cons_zero, List.setIfInBounds_toArray, List.set_cons_zero, List.set_cons_succ])
            refine wpAnyH_ready (rs := [6, 10]) (by kernel_rfl) (by simp) ?_
            refine AllReadyH.cons rfl (fun K hK => ?_) (AllReadyH.cons rfl (fun K hK => ?_) AllReadyH.nil)
            · go_simp
              refine (VA_.out _).mono ?_
              rintro e y2 ⟨rfl, b2⟩
              replace BX := hid (BX.out.trans (b2.mono BX.out.size))
              refine hK.out _ _ (TUP.out _ BX.out) (fun hHeld => ?_)
              clear hK K
              (try simp only [Act.put, List.getElem_toArray, List.getElem_cons_succ, List.getElem_cons_zero, List.setIfInBounds_toArray, List.set_cons_zero, List.set_cons_succ])
              refine wpAnyH_take (i := 7) (v := .tuple #[.agg #[.int .i64 R1, .int .i64 R2], .int .i64 RE]) rfl (by kernel_rfl) (by kernel_rfl) (by kernel_rfl) (fun _ _ _ h => h) (Or.inl ⟨by rfl, ?_⟩) (by assumption) ?_
              · (intro w hSw;  (try dsimp only at hSw); go_simp)
              (try simp only [Act.put, List.getElem_toArray, List.getElem_cons_succ, List.getElem_cons_zero, List.setIfInBounds_toArray, List.set_cons_zero, List.set_cons_succ])
              refine wpAnyH_take (i := 8) (v := .agg #[.int .i64 R1, .int .i64 R2]) rfl (by kernel_rfl) (by kernel_rfl) (by kernel_rfl) (fun _ _ _ h => h) (Or.inl ⟨by rfl, ?_⟩) (by assumption) ?_
              · (intro w hSw;  (try dsimp only at hSw); go_simp)
              (try simp only [Act.put, List.getElem_toArray, List.getElem_cons_succ, List.getElem_cons_zero, List.setIfInBounds_toArray, List.set_cons_zero, List.set_cons_succ])
              refine wpAnyH_take (i := 9) (v := .int .i64 RE) rfl (by kernel_rfl) (by kernel_rfl) (by kernel_rfl) (fun _ _ _ h => h) (Or.inl ⟨by rfl, ?_⟩) (by assumption) ?_
              · (intro w hSw;  (try dsimp only at hSw); go_simp)
              (try simp only [Act.put, List.getElem_toArray, List.getElem_cons_succ, List.getElem_cons_zero, List.setIfInBounds_toArray, List.set_cons_zero, List.set_cons_succ])
              refine wpAnyH_ready (rs := [10]) (by kernel_rfl) (by simp) ?_
              refine AllReadyH.cons rfl (fun K hK => ?_) AllReadyH.nil
              go_simp
              have z0 : (y2.alloc (.cells #[.int .i64 0, .int .i64 0] 32)).cell? ⟨y2.heap.size, 0, none⟩ = some (.int .i64 0) := by simp [go_sem]
              have z1 : (y2.alloc (.cells #[.int .i64 0, .int .i64 0] 32)).cell? ⟨y2.heap.size, 1, none⟩ = some (.int .i64 0) := by simp [go_sem]
              have f0 : (y2.alloc (.cells #[.int .i64 0, .int .i64 0] 32)).frozen? ⟨y2.heap.size, 0, none⟩ = false := by simp [go_sem]
              have f1 : (y2.alloc (.cells #[.int .i64 0, .int .i64 0] 32)).frozen? ⟨y2.heap.size, 1, none⟩ = false := by simp [go_sem]
              have hE := hid BX.out.size
              replace BX := hid (BX.out.alloc BX.out.size (.cells #[.int .i64 0, .int .i64 0] 32))
              generalize hyz : y2.alloc (.cells #[.int .i64 0, .int .i64 0] 32) = yz at *
              clear hyz
              generalize hyE : Array.size (World.heap y2) = E at *
              clear hyE
              refine hK.out _ _ (TUP.out _ BX.out) (fun hHeld => ?_)
              clear hK K
              (try simp only [Act.put, List.getElem_toArray, List.getElem_cons_succ, List.getElem_cons_zero, List.setIfInBounds_toArray, List.set_cons_zero, List.set_cons_succ])
              refine wpAnyH_ready (rs := [11]) (by kernel_rfl) (by simp) ?_
              refine AllReadyH.cons rfl (fun K hK => ?_) AllReadyH.nil
              go_simp
              have s0 : ((yz.setCell ⟨E, 0, none⟩ (.int .i64 R1)).setCell ⟨E, 1, none⟩ (.int .i64 R2)).cell? ⟨E, 0, none⟩ = some (.int .i64 R1) := by simp [go_sem, z0, z1, f0, f1]
              have s1 : ((yz.setCell ⟨E, 0, none⟩ (.int .i64 R1)).setCell ⟨E, 1, none⟩ (.int .i64 R2)).cell? ⟨E, 1, none⟩ = some (.int .i64 R2) := by simp [go_sem, z0, z1, f0, f1]
              replace BX : Hid (Below W0.heap.size W0 ((yz.setCell ⟨E, 0, none⟩ (.int .i64 R1)).setCell ⟨E, 1, none⟩ (.int .i64 R2))) := (BX.out.setCell (by exact hE.out) _).setCell (by exact hE.out) _
              clear z0 z1 f0 f1
              generalize hyv : (yz.setCell ⟨E, 0, none⟩ (.int .i64 R1)).setCell ⟨E, 1, none⟩ (.int .i64 R2) = yv at *
              clear hyv
              refine hK.out _ _ (TUP.out _ BX.out) (fun hHeld => ?_)
              clear hK K
              (try simp only [Act.put, List.getElem_toArray, List.getElem_cons_succ, List.getElem_cons_zero, List.setIfInBounds_toArray, List.set_cons_zero, List.set_cons_succ])
              refine wpAnyH_take (i := 12) (v := .int .i64 RE) rfl (by kernel_rfl) (by kernel_rfl) (by kernel_rfl) (fun _ _ _ h => h) (Or.inl ⟨by rfl, ?_⟩) (by assumption) ?_
              · (intro w hSw;  (try dsimp only at hSw); go_simp)
              (try simp only [Act.put, List.getElem_toArray, List.getElem_cons_succ, List.getElem_cons_zero, List.setIfInBounds_toArray, List.set_cons_zero, List.set_cons_succ])
              refine wpAnyH_done (by kernel_rfl) ?_ _
              have q1 := (TUP.out _ BX.out).2.1
              have U1 := U0.below BX.out
              clear hHeld TUP LK VA_
              rcases HR.out with ⟨o1, e1, rfl⟩ | ⟨o1, rfl⟩
              · obtain ⟨w3, hrun3, hU3, hg3⟩ := PT.out yv U1
                have HU3 := hid hU3
                have HG3 := hid hg3
                clear hU3 hg3 PT
                go_wp2_with fail
                have FT : Hid (fitT l (j + 1) = true) := by unfold Hid; rw [NF.out, hfit.out, o1]; rfl
                have BW := BA.out.trans (BX.out.mono BA.out.size)
                have E1 : (fun y => if x2 = y then (R1, R2) else useT l y j) = fun q => useT l q (j + 1) := by
                  funext y
                  by_cases e : x2 = y
                  · subst e; simp only [if_true]; rw [HS.out]; exact e1
                  · rw [if_neg e]; have := congrFun NT.out y; simp only [if_neg e] at this; exact this.symm
                have HU4 := HU3.out
                rw [E1] at HU4
                have HU5 : Hid (UM w3 M (j + 1) (fun q => hasT l q (j + 1)) (fun q => useT l q (j + 1))) := by unfold Hid; rw [NH.out]; exact HU4
                refine ⟨⟨j + 1, by omega, by go_num, FT, HU5, BW.grown HG3.out BW.size (fun i e => by cases e; exact MB.out)⟩, ?_⟩
                simp [intOf]; omega
              · have ER : Hid (useErr l = 2) := by
                  have h2 := fitT_le (k := j + 1) (by rw [NF.out, o1]; exact Bool.and_false _) l.length (by omega)
                  unfold Hid useErr; rw [GB.out, h2]; rfl
                go_wp2_with fail
                go_ret2
                exact ⟨_, ret_u ER.out, .inl ⟨by rw [ER.out]; decide, rfl⟩, BA.out.trans (BX.out.mono BA.out.size)⟩
            · go_simp
              have z0 : (y1.alloc (.cells #[.int .i64 0, .int .i64 0] 32)).cell? ⟨y1.heap.size, 0, none⟩ = some (.int .i64 0) := by simp [go_sem]
              have z1 : (y1.alloc (.cells #[.int .i64 0, .int .i64 0] 32)).cell? ⟨y1.heap.size, 1, none⟩ = some (.int .i64 0) := by simp [go_sem]
              have f0 : (y1.alloc (.cells #[.int .i64 0, .int .i64 0] 32)).frozen? ⟨y1.heap.size, 0, none⟩ = false := by simp [go_sem]
              have f1 : (y1.alloc (.cells #[.int .i64 0, .int .i64 0] 32)).frozen? ⟨y1.heap.size, 1, none⟩ = false := by simp [go_sem]
              have hE := hid BX.out.size
              replace BX := hid (BX.out.alloc BX.out.size (.cells #[.int .i64 0, .int .i64 0] 32))
              generalize hyz : y1.alloc (.cells #[.int .i64 0, .int .i64 0] 32) = yz at *
              clear hyz
              generalize hyE : Array.size (World.heap y1) = E at *
              clear hyE
              refine hK.out _ _ (TUP.out _ BX.out) (fun hHeld => ?_)
              clear hK K
              (try simp only [Act.put, List.getElem_toArray, List.getElem_cons_succ, List.getElem_cons_zero, List.setIfInBounds_toArray, List.set_cons_zero, List.set_cons_succ])
              refine wpAnyH_ready (rs := [6]) (by kernel_rfl) (by simp) ?_
              refine AllReadyH.cons rfl (fun K hK => ?_) AllReadyH.nil
              go_simp
              refine (VA_.out _).mono ?_
              rintro e y2 ⟨rfl, b2⟩
              replace BX := hid (BX.out.trans (b2.mono BX.out.size))
              refine hK.out _ _ (TUP.out _ BX.out) (fun hHeld => ?_)
              clear hK K
              (try simp only [Act.put, List.getElem_toArray, List.getElem_cons_succ, List.getElem_cons_zero, List.setIfInBounds_toArray, List.set_cons_zero, List.set_cons_succ])
              replace f0 := keepf b2 z0 f0
              replace f1 := keepf b2 z1 f1
              replace z0 := keepc b2 z0
              replace z1 := keepc b2 z1
              refine wpAnyH_take (i := 7) (v := .tuple #[.agg #[.int .i64 R1, .int .i64 R2], .int .i64 RE]) rfl (by kernel_rfl) (by kernel_rfl) (by kernel_rfl) (fun _ _ _ h => h) (Or.inl ⟨by rfl, ?_⟩) (by assumption) ?_
              · (intro w hSw;  (try dsimp only at hSw); go_simp)
              (try simp only [Act.put, List.getElem_toArray, List.getElem_cons_succ, List.getElem_cons_zero, List.setIfInBounds_toArray, List.set_cons_zero, List.set_cons_succ])
              refine wpAnyH_take (i := 8) (v := .agg #[.int .i64 R1, .int .i64 R2]) rfl (by kernel_rfl) (by kernel_rfl) (by kernel_rfl) (fun _ _ _ h => h) (Or.inl ⟨by rfl, ?_⟩) (by assumption) ?_
              · (intro w hSw;  (try dsimp only at hSw); go_simp)
              (try simp only [Act.put, List.getElem_toArray, List.getElem_cons_succ, List.getElem_cons_zero, List.setIfInBounds_toArray, List.set_cons_zero, List.set_cons_succ])
              refine wpAnyH_take (i := 9) (v := .int .i64 RE) rfl (by kernel_rfl) (by kernel_rfl) (by kernel_rfl) (fun _ _ _ h => h) (Or.inl ⟨by rfl, ?_⟩) (by assumption) ?_
              · (intro w hSw;  (try dsimp only at hSw); go_simp)
              (try simp only [Act.put, List.getElem_toArray, List.getElem_cons_succ, List.getElem_cons_zero, List.setIfInBounds_toArray, List.set_cons_zero, List.set_cons_succ])
              refine wpAnyH_ready (rs := [11]) (by kernel_rfl) (by simp) ?_
              refine AllReadyH.cons rfl (fun K hK => ?_) AllReadyH.nil
              go_simp
              have s0 : ((y2.setCell ⟨E, 0, none⟩ (.int .i64 R1)).setCell ⟨E, 1, none⟩ (.int .i64 R2)).cell? ⟨E, 0, none⟩ = some (.int .i64 R1) := by simp [go_sem, z0, z1, f0, f1]
              have s1 : ((y2.setCell ⟨E, 0, none⟩ (.int .i64 R1)).setCell ⟨E, 1, none⟩ (.int .i64 R2)).cell? ⟨E, 1, none⟩ = some (.int .i64 R2) := by simp [go_sem, z0, z1, f0, f1]
              replace BX : Hid (Below W0.heap.size W0 ((y2.setCell ⟨E, 0, none⟩ (.int .i64 R1)).setCell ⟨E, 1, none⟩ (.int .i64 R2))) := (BX.out.setCell (by exact hE.out) _).setCell (by exact hE.out) _
              clear z0 z1 f0 f1
              generalize hyv : (y2.setCell ⟨E, 0, none⟩ (.int .i64 R1)).setCell ⟨E, 1, none⟩ (.int .i64 R2) = yv at *
              clear hyv
              refine hK.out _ _ (TUP.out _ BX.out) (fun hHeld => ?_)
              clear hK K
              (try simp only [Act.put, List.getElem_toArray, List.getElem_cons_succ, List.getElem_cons_zero, List.setIfInBounds_toArray, List.set_cons_zero, List.set_cons_succ])
              refine wpAnyH_take (i := 12) (v := .int .i64 RE) rfl (by kernel_rfl) (by kernel_rfl) (by kernel_rfl) (fun _ _ _ h => h) (Or.inl ⟨by rfl, ?_⟩) (by assumption) ?_
              · (intro w hSw;  (try dsimp only at hSw); go_simp)
              (try simp only [Act.put, List.getElem_toArray, List.getElem_cons_succ, List.getElem_cons_zero, List.setIfInBounds_toArray, List.set_cons_zero, List.set_cons_succ])
              refine wpAnyH_done (by kernel_rfl) ?_ _
              have q1 := (TUP.out _ BX.out).2.1
              have U1 := U0.below BX.out
              clear hHeld TUP LK VA_
              rcases HR.out with ⟨o1, e1, rfl⟩ | ⟨o1, rfl⟩
              · obtain ⟨w3, hrun3, hU3, hg3⟩ := PT.out yv U1
                have HU3 := hid hU3
                have HG3 := hid hg3
                clear hU3 hg3 PT
                go_wp2_with fail
                have FT : Hid (fitT l (j + 1) = true) := by unfold Hid; rw [NF.out, hfit.out, o1]; rfl
                have BW := BA.out.trans (BX.out.mono BA.out.size)
                have E1 : (fun y => if x2 = y then (R1, R2) else useT l y j) = fun q => useT l q (j + 1) := by
                  funext y
                  by_cases e : x2 = y
                  · subst e; simp only [if_true]; rw [HS.out]; exact e1
                  · rw [if_neg e]; have := congrFun NT.out y; simp only [if_neg e] at this; exact this.symm
                have HU4 := HU3.out
                rw [E1] at HU4
                have HU5 : Hid (UM w3 M (j + 1) (fun q => hasT l q (j + 1)) (fun q => useT l q (j + 1))) := by unfold Hid; rw [NH.out]; exact HU4
                refine ⟨⟨j + 1, by omega, by go_num, FT, HU5, BW.grown HG3.out BW.size (fun i e => by cases e; exact MB.out)⟩, ?_⟩
                simp [intOf]; omega
              · have ER : Hid (useErr l = 2) := by
                  have h2 := fitT_le (k := j + 1) (by rw [NF.out, o1]; exact Bool.and_false _) l.length (by omega)
                  unfold Hid useErr; rw [GB.out, h2]; rfl
                go_wp2_with fail
                go_ret2
                exact ⟨_, ret_u ER.out, .inl ⟨by rw [ER.out]; decide, rfl⟩, BA.out.trans (BX.out.mono BA.out.size)⟩
          · go_simp
            have z0 : ((W0.alloc (.cells #[.int .i64 0, .int .i64 0] 32)).drew).cell? ⟨W0.heap.size, 0, none⟩ = some (.int .i64 0) := by simp [go_sem]
            have z1 : ((W0.alloc (.cells #[.int .i64 0, .int .i64 0] 32)).drew).cell? ⟨W0.heap.size, 1, none⟩ = some (.int .i64 0) := by simp [go_sem]
            have f0 : ((W0.alloc (.cells #[.int .i64 0, .int .i64 0] 32)).drew).frozen? ⟨W0.heap.size, 0, none⟩ = false := by simp [go_sem]
            have f1 : ((W0.alloc (.cells #[.int .i64 0, .int .i64 0] 32)).drew).frozen? ⟨W0.heap.size, 1, none⟩ = false := by simp [go_sem]
            have hE := hid (Nat.le_refl W0.heap.size)
            replace BX := hid (((Below.refl W0.heap.size W0).alloc (Nat.le_refl _) (.cells #[.int .i64 0, .int .i64 0] 32)).drew)
            generalize hyz : (W0.alloc (.cells #[.int .i64 0, .int .i64 0] 32)).drew = yz at *
            clear hyz
            refine hK.out _ _ (TUP.out _ BX.out) (fun hHeld => ?_)
            clear hK K
            (try simp only [Act.put, List.getElem_toArray, List.getElem_cons_succ, List.getElem_cons_zero, List.setIfInBounds_toArray, List.set_cons_zero, List.set_cons_succ])
            refine wpAnyH_ready (rs := [5]) (by kernel_rfl) (by simp) ?_
            refine AllReadyH.cons rfl (fun K hK => ?_) AllReadyH.nil
            go_simp
            refine (amount_any _ _ _ _ _ _ _ _ _ _ _).mono ?_
            rintro e y1 ⟨rfl, b1⟩
            replace BX := hid (BX.out.trans (b1.mono BX.out.size))
            refine hK.out _ _ (TUP.out _ BX.out) (fun hHeld => ?_)
            clear hK K
            (try simp only [Act.put, List.getElem_toArray, List.getElem_cons_succ, List.getElem_cons_zero, List.setIfInBounds_toArray, List.set_cons_zero, List.set_cons_succ])
            replace f0 := keepf b1 z0 f0
            replace f1 := keepf b1 z1 f1
            replace z0 := keepc b1 z0
            replace z1 := keepc b1 z1
            refine wpAnyH_ready (rs := [6]) (by kernel_rfl) (by simp) ?_
            refine AllReadyH.cons rfl (fun K hK => ?_) AllReadyH.nil
            go_simp
            refine (VA_.out _).mono ?_
            rintro e y2 ⟨rfl, b2⟩
            replace BX := hid (BX.out.trans (b2.mono BX.out.size))
            refine hK.out _ _ (TUP.out _ BX.out) (fun hHeld => ?_)
            clear hK K
            (try simp only [Act.put, List.getElem_toArray, List.getElem_cons_succ, List.getElem_cons_zero, List.setIfInBounds_toArray, List.set_cons_zero, List.set_cons_succ])
            replace f0 := keepf b2 z0 f0
            replace f1 := keepf b2 z1 f1
            replace z0 := keepc b2 z0
            replace z1 := keepc b2 z1
            refine wpAnyH_take (i := 7) (v := .tuple #[.agg #[.int .i64 R1, .int .i64 R2], .int .i64 RE]) rfl (by kernel_rfl) (by kernel_rfl) (by kernel_rfl) (fun _ _ _ h => h) (Or.inl ⟨by rfl, ?_⟩) (by assumption) ?_
            · (intro w hSw;  (try dsimp only at hSw); go_simp)
            (try simp only [Act.put, List.getElem_toArray, List.getElem_cons_succ, List.getElem_cons_zero, List.setIfInBounds_toArray, List.set_cons_zero, List.set_cons_succ])
            refine wpAnyH_take (i := 8) (v := .agg #[.int .i64 R1, .int .i64 R2]) rfl (by kernel_rfl) (by kernel_rfl) (by kernel_rfl) (fun _ _ _ h => h) (Or.inl ⟨by rfl, ?_⟩) (by assumption) ?_
            · (intro w hSw;  (try dsimp only at hSw); go_simp)
            (try simp only [Act.put, List.getElem_toArray, List.getElem_cons_succ, List.getElem_cons_zero, List.setIfInBounds_toArray, List.set_cons_zero, List.set_cons_succ])
            refine wpAnyH_take (i := 9) (v := .int .i64 RE) rfl (by kernel_rfl) (by kernel_rfl) (by kernel_rfl) (fun _ _ _ h => h) (Or.inl ⟨by rfl, ?_⟩) (by assumption) ?_
            · (intro w hSw;  (try dsimp only at hSw); go_simp)
            (try simp only [Act.put, List.getElem_toArray, List.getElem_cons_succ, List.getElem_cons_zero, List.setIfInBounds_toArray, List.set_cons_zero, List.set_cons_succ])
            refine wpAnyH_ready (rs := [11]) (by kernel_rfl) (by simp) ?_
            refine AllReadyH.cons rfl (fun K hK => ?_) AllReadyH.nil
            go_simp
            have s0 : ((y2.setCell ⟨W0.heap.size, 0, none⟩ (.int .i64 R1)).setCell ⟨W0.heap.size, 1, none⟩ (.int .i64 R2)).cell? ⟨W0.heap.size, 0, none⟩ = some (.int .i64 R1) := by simp [go_sem, z0, z1, f0, f1]
            have s1 : ((y2.setCell ⟨W0.heap.size, 0, none⟩ (.int .i64 R1)).setCell ⟨W0.heap.size, 1, none⟩ (.int .i64 R2)).cell? ⟨W0.heap.size, 1, none⟩ = some (.int .i64 R2) := by simp [go_sem, z0, z1, f0, f1]
            replace BX : Hid (Below W0.heap.size W0 ((y2.setCell ⟨W0.heap.size, 0, none⟩ (.int .i64 R1)).setCell ⟨W0.heap.size, 1, none⟩ (.int .i64 R2))) := (BX.out.setCell (by exact hE.out) _).setCell (by exact hE.out) _
            clear z0 z1 f0 f1
            generalize hyv : (y2.setCell ⟨W0.heap.size, 0, none⟩ (.int .i64 R1)).setCell ⟨W0.heap.size, 1, none⟩ (.int .i64 R2) = yv at *
            clear hyv
            refine hK.out _ _ (TUP.out _ BX.out) (fun hHeld => ?_)
            clear hK K
            (try simp only [Act.put, List.getElem_toArray, List.getElem_cons_succ, List.getElem_cons_zero, List.setIfInBounds_toArray, List.set_cons_zero, List.set_cons_succ])
            refine wpAnyH_take (i := 12) (v := .int .i64 RE) rfl (by kernel_rfl) (by kernel_rfl) (by kernel_rfl) (fun _ _ _ h => h) (Or.inl ⟨by rfl, ?_⟩) (by assumption) ?_
            · (intro w hSw;  (try dsimp only at hSw); go_simp)
            (try simp only [Act.put, List.getElem_toArray, List.getElem_cons_succ, List.getElem_cons_zero, List.setIfInBounds_toArray, List.set_cons_zero, List.set_cons_succ])
            refine wpAnyH_done (by kernel_rfl) ?_ _
            have q1 := (TUP.out _ BX.out).2.1
            have U1 := U0.below BX.out
            clear hHeld TUP LK VA_
            rcases HR.out with ⟨o1, e1, rfl⟩ | ⟨o1, rfl⟩
            · obtain ⟨w3, hrun3, hU3, hg3⟩ := PT.out yv U1
              have HU3 := hid hU3
              have HG3 := hid hg3
              clear hU3 hg3 PT
              go_wp2_with fail
              have FT : Hid (fitT l (j + 1) = true) := by unfold Hid; rw [NF.out, hfit.out, o1]; rfl
              have BW := BA.out.trans (BX.out.mono BA.out.size)
              have E1 : (fun y => if x2 = y then (R1, R2) else useT l y j) = fun q => useT l q (j + 1) := by
                funext y
                by_cases e : x2 = y
                · subst e; simp only [if_true]; rw [HS.out]; exact e1
                · rw [if_neg e]; have := congrFun NT.out y; simp only [if_neg e] at this; exact this.symm
              have HU4 := HU3.out
              rw [E1] at HU4
              have HU5 : Hid (UM w3 M (j + 1) (fun q => hasT l q (j + 1)) (fun q => useT l q (j + 1))) := by unfold Hid; rw [NH.out]; exact HU4
              refine ⟨⟨j + 1, by omega, by go_num, FT, HU5, BW.grown HG3.out BW.size (fun i e => by cases e; exact MB.out)⟩, ?_⟩
              simp [intOf]; omega
            · have ER : Hid (useErr l = 2) := by
                have h2 := fitT_le (k := j + 1) (by rw [NF.out, o1]; exact Bool.and_false _) l.length (by omega)
                unfold Hid useErr; rw [GB.out, h2]; rfl
              go_wp2_with fail
              go_ret2
              exact ⟨_, ret_u ER.out, .inl ⟨by rw [ER.out]; decide, rfl⟩, BA.out.trans (BX.out.mono BA.out.size)⟩
        · obtain rfl : j = k := by omega
          have ER : Hid (useErr l = 0) := by unfold Hid useErr; rw [GB.out, HL.out, hfit.out]; rfl
          have HU := hid hU.out
          clear hU hfit
          go_wp2_with fail
          go_ret2
          exact ⟨_, ret_u ER.out, .inr ⟨ER.out, M, rfl, MB.out, by rw [HL.out]; exact HU.out⟩, hB.out⟩

end Go.Proofs.Ytdbkjcnanffibaa
