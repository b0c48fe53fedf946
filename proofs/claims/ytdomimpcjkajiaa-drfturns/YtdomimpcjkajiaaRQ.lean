/-
  The document's answer for queues: Room of a right use; Room whole.
-/
import Derived.Test.YtdomimpcjkajiaaRP
import Derived.Test.YtdomimpcjkajiaaRS
namespace Go.Proofs.Ytdomimpcjkajiaa
open Go.RowKit Go.Deep Go.Maps Go.Shelf
set_option linter.unusedVariables false
set_option linter.unusedSimpArgs false

/-- Behind a region that drew. -/
theorem drewc {w : World} {a : Addr} {v : Value} (h : w.cell? a = some v) : w.drew.cell? a = some v := h
set_option maxRecDepth 100000 in
set_option maxHeartbeats 4000000 in
theorem rroom_last (a : Option Addr) (len cap : Nat) (l : List Qu) (ub : Option Addr) (n uc : Nat) (us : List Us) (leaf mc mm : Int) (w : World) (h : HoldsQ w a len cap l) (hu : HoldsU w ub n uc us) (hE : sumsE l us = 0) (h1 : hasQ l leaf = true) (h2 : leafB l leaf = true) (h3 : okv (mc, mm) = true) :
    Calls Try.prog 17 #[.slice a len cap, .slice ub n uc, .int .i64 leaf, .agg #[.int .i64 mc, .int .i64 mm]] w fun e w' => e = .returned (.int .i64 (pathE l us (pl l leaf) mc mm)) ∧ Below w.heap.size w w' := by
  have HS := hid (rsums_any a len cap l ub n uc us (w.alloc (.cells #[.int .i64 mc, .int .i64 mm] 25)) (h.below (by repeat (first | exact Below.refl _ _ | assumption | refine Below.alloc ?_ (by simp <;> omega) _ | refine Below.setCell ?_ (by simp <;> omega) _ | refine Below.drew ?_ | refine below_drewN ?_ _))) (hu.below (by repeat (first | exact Below.refl _ _ | assumption | refine Below.alloc ?_ (by simp <;> omega) _ | refine Below.setCell ?_ (by simp <;> omega) _ | refine Below.drew ?_ | refine below_drewN ?_ _))))
  have HL := hid h.1
  have hcap0 := h.2.1
  have hcm := h.2.2.1
  have HH := hid (h.below (show Below w.heap.size w (w.alloc (.cells #[.int .i64 mc, .int .i64 mm] 25)) from (by repeat (first | exact Below.refl _ _ | assumption | refine Below.alloc ?_ (by simp <;> omega) _ | refine Below.setCell ?_ (by simp <;> omega) _ | refine Below.drew ?_ | refine below_drewN ?_ _))))
  have HW0 := hid (show Below w.heap.size w (w.alloc (.cells #[.int .i64 mc, .int .i64 mm] 25)) from (by repeat (first | exact Below.refl _ _ | assumption | refine Below.alloc ?_ (by simp <;> omega) _ | refine Below.setCell ?_ (by simp <;> omega) _ | refine Below.drew ?_ | refine below_drewN ?_ _)))
  clear h hu
  have Z1 := hid h1
  have Z2 := hid h2
  have Z3 := hid h3
  obtain ⟨oc, om⟩ := okv_true h3
  unfold okp at oc om
  simp only at oc om
  have pp : pl l leaf < l.length := of_decide_eq_true h1
  have PP := hid pp
  clear pp
  clear h1 h2 h3
  have ER : Hid (sumsR l us = vecsTo l us l.length) := by unfold Hid sumsR; rw [if_pos hE]
  obtain ⟨hC, hFt⟩ := sumsE_zero hE
  have hG := chkE_ok.1 hC
  have hp : 0 < len := by have := hG.2.1.1; rw [HL.out] at this; exact this
  have hle : len ≤ 64 := by rw [← HL.out]; exact hG.1
  have FP := hid hG.2.1
  have FT := hid hFt
  have SE := hid hE
  obtain ⟨b, off, rfl, R⟩ := HH.out.row hp
  have HR := hid R
  clear hE hC hG hFt R
  go_enter Try.func17, Try.ntmps17
  go_wp2_with fail
  refine HS.out.mono ?_
  rintro e w1 ⟨v1, rfl, o1, b1⟩
  have B1 := hid b1
  rw [SE.out]
  rw [ER.out, vecsTo_len, HL.out] at o1
  obtain ⟨a1, c1, rfl⟩ := o1.form
  have P1 := hid (o1.holds encV_len)
  have RL : Hid ((sumsR l us).length = len) := by unfold Hid; rw [ER.out, vecsTo_len, HL.out]
  clear o1 b1
  go_wp2_with fail
  refine (rhas_any _ len cap l leaf w1 (HH.out.below B1.out)).mono ?_
  rintro e w2 ⟨rfl, b2⟩
  rw [Z1.out]
  have P2 := hid (P1.out.below b2)
  have B2 := hid (B1.out.trans (b2.mono B1.out.size))
  clear b2 P1 B1
  go_wp2_with fail
  refine (rleaf_any b off len cap l leaf w2 (HH.out.below B2.out) hp hle).mono ?_
  rintro e w3 ⟨rfl, b3⟩
  rw [Z1.out, Z2.out, Bool.true_and]
  have P3 := hid (P2.out.below b3)
  have B3 := hid (B2.out.trans (b3.mono B2.out.size))
  clear b3 P2 B2
  have m0 := keepc B3.out (a := ⟨w.heap.size, 0, none⟩) (v := .int .i64 mc) (by simp [go_sem])
  have m1 := keepc B3.out (a := ⟨w.heap.size, 1, none⟩) (v := .int .i64 mm) (by simp [go_sem])
  go_wp2_with fail
  refine (good_any mc mm w3).mono ?_
  rintro e w4 ⟨rfl, b4⟩
  rw [Z3.out]
  have P4 := hid (P3.out.below b4)
  have B4 := hid (B3.out.trans (b4.mono B3.out.size))
  clear b4 P3 B3 m0 m1
  have PA := hid (rpath_any b off len cap l leaf w4 (HH.out.below B4.out) hle FP.out PP.out)
  have PK : Hid (∀ k, k < (pth l (pl l leaf)).length → ∃ i, (pth l (pl l leaf))[k]? = some i ∧ i < l.length ∧ i ∈ pth l (pl l leaf)) := fun k hk => by
    refine ⟨(pth l (pl l leaf))[k], List.getElem?_eq_getElem hk, ?_, List.getElem_mem _⟩
    exact pth_ltR PP.out (List.getElem_mem _)
  have PN : (pth l (pl l leaf)).length ≤ 64 := by have := pth_len (l := l) (pl l leaf); have := PP.out; rw [HL.out] at this; omega
  have NO := hid (fun i (h : i ∈ pth l (pl l leaf)) (e : fitAt l us mc mm i = false) => pathE_no (us := us) h e)
  have YES := hid (fun (h : ∀ i ∈ pth l (pl l leaf), fitAt l us mc mm i = true) => pathE_yes (us := us) h)
  generalize hres : pathE l us (pl l leaf) mc mm = RES at *
  have HRES := hid hres
  clear hres
  generalize pth l (pl l leaf) = path at *
  go_wp2_with fail
  refine PA.out.mono ?_
  rintro e w5 ⟨v5, rfl, o5, b5⟩
  unfold AnsN at o5
  rw [List.length_map] at o5
  obtain ⟨a5, c5, rfl⟩ := o5.form
  have Q5 := hid (o5.holds encN_len)
  have LM : Hid ((path.map (fun i => (qa l i).id)).length = path.length) := by simp [Hid]
  have P5 := hid (P4.out.below b5)
  have B5 := hid (B4.out.trans (b5.mono B4.out.size))
  have pcap := Q5.out.2.1
  have pcm := Q5.out.2.2.1
  have vcap := P5.out.2.1
  clear o5 b5 P4 B4 PA
  try rw [LM.out]
  go_wp2_with fail
  go_loopw [42] (fun i wr => ∃ k : Nat, k ≤ path.length ∧ i = .int .i64 k ∧ Hid (∀ j ∈ path.take k, fitAt l us mc mm j = true) ∧ Hid (Below w5.heap.size w5 wr)) (fun i _ => path.length - (intOf i).toNat)
  case atStart => exact ⟨0, by omega, rfl, fun j hj => by simp at hj, Below.refl _ _⟩
  case round =>
    obtain ⟨k, hk, rfl, hgo, hB⟩ := hrel
    by_cases hlt : k < path.length
    · obtain ⟨i, hpi, hil, him⟩ := PK.out k hlt
      have hil' : i < len := by rw [← HL.out]; exact hil
      obtain ⟨pb, po, rfl, hrow⟩ := Q5.out.rowN (by omega)
      have c0 := keepc hB.out (hrow k hlt)
      have ei : (path.map (fun i => (qa l i).id))[k]?.getD 0 = (qa l i).id := by rw [List.getElem?_map, hpi]; rfl
      rw [ei] at c0
      have PX := hid (FP.out.pl hil)
      have Br := hid (B5.out.trans (hB.out.mono B5.out.size))
      have VX : Hid (va (vecsTo l us len) i = vecAt l us i) := va_vecs hil'
      have okx := fits_at FT.out hil
      have SM := hid (fun W (hW : Below (w.alloc (.cells #[.int .i64 mc, .int .i64 mm] 25)).heap.size (w.alloc (.cells #[.int .i64 mc, .int .i64 mm] 25)) W) (hV : HoldsV W a1 len c1 (vecsTo l us len)) => rsum_any (some ⟨b, off, none⟩) len cap l a1 c1 (vecsTo l us len) (qa l i).id W (HH.out.below hW) hV (by rw [PX.out]; exact hil'))
      have FD := hid (fun W (hW : Below (w.alloc (.cells #[.int .i64 mc, .int .i64 mm] 25)).heap.size (w.alloc (.cells #[.int .i64 mc, .int .i64 mm] 25)) W) => find_any (some ⟨b, off, none⟩) len cap l (qa l i).id W (HH.out.below hW) (by rw [PX.out]; exact hil'))
      rw [PX.out, VX.out] at SM
      rw [PX.out] at FD
      have FA : Hid (fitAt l us mc mm i = fitB ((vecAt l us i).1 + mc) ((vecAt l us i).2 + mm) (qa l i).qc (qa l i).qm) := rfl
      have NX : Hid (fitAt l us mc mm i = true → ∀ j ∈ path.take (k + 1), fitAt l us mc mm j = true) := fun h0 j hj => by
        rw [List.take_add_one, hpi, List.mem_append] at hj
        rcases hj with hj | hj
        · exact hgo.out j hj
        · simp at hj; rw [hj]; exact h0
      have NOi := hid (NO.out i him)
      obtain ⟨x1, x2⟩ := okv_true okx
      unfold okp at x1 x2
      clear ei hrow okx hpi him PX VX
      generalize fitAt l us mc mm i = FI at *
      generalize vecAt l us i = V at *
      obtain ⟨C, M⟩ := V
      generalize qa l i = q at *
      obtain ⟨q1, q2, q3, q4, q5, q6, q7⟩ := q
      unfold qv at FD
      simp only at *
      have hw1 : IntKind.i64.wrap (C + mc) = C + mc := by rw [IntKind.wrap_i64]; omega
      have hw2 : IntKind.i64.wrap (M + mm) = M + mm := by rw [IntKind.wrap_i64]; omega
      have ka : (0 : Int) ≤ (k : Int) := by omega
      have kb : (k : Int) < (path.length : Int) := by omega
      have hqf := run_quota
      go_wp2_with fail
      refine (SM.out wr Br.out (P5.out.below hB.out)).mono ?_
      rintro e w6 ⟨rfl, b6⟩
      have B6 := hid (Br.out.trans (b6.mono Br.out.size))
      have B56 := hid (hB.out.trans (b6.mono hB.out.size))
      have m0 := keepc (B6.out.alloc B6.out.size (.cells #[.int .i64 C, .int .i64 M] 25)) (a := ⟨w.heap.size, 0, none⟩) (v := .int .i64 mc) (by simp [go_sem])
      have m1 := keepc (B6.out.alloc B6.out.size (.cells #[.int .i64 C, .int .i64 M] 25)) (a := ⟨w.heap.size, 1, none⟩) (v := .int .i64 mm) (by simp [go_sem])
      have s6 := B6.out.size
      simp only [World.size_alloc] at s6
      clear b6 SM c0
      have k0 : (w6.alloc (.cells #[.int .i64 C, .int .i64 M] 25)).cell? ⟨w6.heap.size, 0, none⟩ = some (.int .i64 C) := by simp [go_sem]
      have k1 : (w6.alloc (.cells #[.int .i64 C, .int .i64 M] 25)).cell? ⟨w6.heap.size, 1, none⟩ = some (.int .i64 M) := by simp [go_sem]
      have BA := hid (B6.out.alloc B6.out.size (.cells #[.int .i64 C, .int .i64 M] 25))
      have BA5 := hid (B56.out.alloc B56.out.size (.cells #[.int .i64 C, .int .i64 M] 25))
      go_wp2_with fail
      generalize hwa : w6.alloc (.cells #[.int .i64 C, .int .i64 M] 25) = wa at *
      have FDa := hid (FD.out wa.drew ((BA.out.trans (by repeat (first | exact Below.refl _ _ | assumption | refine Below.alloc ?_ (by first | omega | (simp <;> omega)) _ | refine Below.setCell ?_ (by first | omega | (simp <;> omega)) _ | refine Below.drew ?_ | refine below_drewN ?_ _))).drew))
      have BD := hid (BA.out.drew)
      have BD5 := hid (BA5.out.drew)
      have e0 := drewc k0
      have e1 := drewc k1
      have e2 := drewc m0
      have e3 := drewc m1
      clear k0 k1 m0 m1 FD
      refine wp_region_held_drew (S := (fun w' => w'.cell? ⟨w6.heap.size, 0, none⟩ = some (.int .i64 C) ∧ w'.cell? ⟨w6.heap.size, 1, none⟩ = some (.int .i64 M) ∧ w'.cell? ⟨w.heap.size, 0, none⟩ = some (.int .i64 mc) ∧ w'.cell? ⟨w.heap.size, 1, none⟩ = some (.int .i64 mm))) (by kernel_rfl) ⟨e0, e1, e2, e3⟩ (fun hHeld => ?_)
      refine wpAnyH_take (i := 0) (v := .pointer (some ⟨w6.heap.size, 0, none⟩)) rfl (by kernel_rfl) (by kernel_rfl) (by kernel_rfl) (fun _ _ _ h => h) (Or.inl ⟨by rfl, ?_⟩) (by assumption) ?_
      · (intro w hSw; (try dsimp only at hSw); go_simp)
      (try simp only [Act.put, List.getElem_toArray, List.getElem_cons_succ, List.getElem_cons_zero, List.setIfInBounds_toArray, List.set_cons_zero, List.set_cons_succ])
      refine wpAnyH_take (i := 1) (v := .int .i64 (C)) rfl (by kernel_rfl) (by kernel_rfl) (by kernel_rfl) (fun _ _ _ h => h) (Or.inl ⟨by rfl, ?_⟩) (by assumption) ?_
      · (intro w hSw; (try dsimp only at hSw); go_simp)
      (try simp only [Act.put, List.getElem_toArray, List.getElem_cons_succ, List.getElem_cons_zero, List.setIfInBounds_toArray, List.set_cons_zero, List.set_cons_succ])
      refine wpAnyH_take (i := 2) (v := .pointer (some ⟨w.heap.size, 0, none⟩)) rfl (by kernel_rfl) (by kernel_rfl) (by kernel_rfl) (fun _ _ _ h => h) (Or.inl ⟨by rfl, ?_⟩) (by assumption) ?_
      · (intro w hSw; (try dsimp only at hSw); go_simp)
      (try simp only [Act.put, List.getElem_toArray, List.getElem_cons_succ, List.getElem_cons_zero, List.setIfInBounds_toArray, List.set_cons_zero, List.set_cons_succ])
      refine wpAnyH_take (i := 3) (v := .int .i64 (mc)) rfl (by kernel_rfl) (by kernel_rfl) (by kernel_rfl) (fun _ _ _ h => h) (Or.inl ⟨by rfl, ?_⟩) (by assumption) ?_
      · (intro w hSw; (try dsimp only at hSw); go_simp)
      (try simp only [Act.put, List.getElem_toArray, List.getElem_cons_succ, List.getElem_cons_zero, List.setIfInBounds_toArray, List.set_cons_zero, List.set_cons_succ])
      refine wpAnyH_take (i := 4) (v := .int .i64 (C + mc)) rfl (by kernel_rfl) (by kernel_rfl) (by kernel_rfl) (fun _ _ _ h => h) (Or.inl ⟨by rfl, ?_⟩) (by assumption) ?_
      · (intro w hSw; (try dsimp only at hSw); go_simp)
      (try simp only [Act.put, List.getElem_toArray, List.getElem_cons_succ, List.getElem_cons_zero, List.setIfInBounds_toArray, List.set_cons_zero, List.set_cons_succ])
      refine wpAnyH_take (i := 5) (v := .pointer (some ⟨w6.heap.size, 1, none⟩)) rfl (by kernel_rfl) (by kernel_rfl) (by kernel_rfl) (fun _ _ _ h => h) (Or.inl ⟨by rfl, ?_⟩) (by assumption) ?_
      · (intro w hSw; (try dsimp only at hSw); go_simp)
      (try simp only [Act.put, List.getElem_toArray, List.getElem_cons_succ, List.getElem_cons_zero, List.setIfInBounds_toArray, List.set_cons_zero, List.set_cons_succ])
      refine wpAnyH_take (i := 6) (v := .int .i64 (M)) rfl (by kernel_rfl) (by kernel_rfl) (by kernel_rfl) (fun _ _ _ h => h) (Or.inl ⟨by rfl, ?_⟩) (by assumption) ?_
      · (intro w hSw; (try dsimp only at hSw); go_simp)
      (try simp only [Act.put, List.getElem_toArray, List.getElem_cons_succ, List.getElem_cons_zero, List.setIfInBounds_toArray, List.set_cons_zero, List.set_cons_succ])
      refine wpAnyH_take (i := 7) (v := .pointer (some ⟨w.heap.size, 1, none⟩)) rfl (by kernel_rfl) (by kernel_rfl) (by kernel_rfl) (fun _ _ _ h => h) (Or.inl ⟨by rfl, ?_⟩) (by assumption) ?_
      · (intro w hSw; (try dsimp only at hSw); go_simp)
      (try simp only [Act.put, List.getElem_toArray, List.getElem_cons_succ, List.getElem_cons_zero, List.setIfInBounds_toArray, List.set_cons_zero, List.set_cons_succ])
      refine wpAnyH_take (i := 8) (v := .int .i64 (mm)) rfl (by kernel_rfl) (by kernel_rfl) (by kernel_rfl) (fun _ _ _ h => h) (Or.inl ⟨by rfl, ?_⟩) (by assumption) ?_
      · (intro w hSw; (try dsimp only at hSw); go_simp)
      (try simp only [Act.put, List.getElem_toArray, List.getElem_cons_succ, List.getElem_cons_zero, List.setIfInBounds_toArray, List.set_cons_zero, List.set_cons_succ])
      refine wpAnyH_take (i := 9) (v := .int .i64 (M + mm)) rfl (by kernel_rfl) (by kernel_rfl) (by kernel_rfl) (fun _ _ _ h => h) (Or.inl ⟨by rfl, ?_⟩) (by assumption) ?_
      · (intro w hSw; (try dsimp only at hSw); go_simp)
      (try simp only [Act.put, List.getElem_toArray, List.getElem_cons_succ, List.getElem_cons_zero, List.setIfInBounds_toArray, List.set_cons_zero, List.set_cons_succ])
      refine wpAnyH_take (i := 10) (v := .agg #[.int .i64 (C + mc), .int .i64 (M + mm)]) rfl (by kernel_rfl) (by kernel_rfl) (by kernel_rfl) (fun _ _ _ h => h) (Or.inl ⟨by rfl, ?_⟩) (by assumption) ?_
      · (intro w hSw; (try dsimp only at hSw); go_simp)
      (try simp only [Act.put, List.getElem_toArray, List.getElem_cons_succ, List.getElem_cons_zero, List.setIfInBounds_toArray, List.set_cons_zero, List.set_cons_succ])
      refine wpAnyH_take (i := 11) (v := .slice (some ⟨b, off, none⟩) len cap) rfl (by kernel_rfl) (by kernel_rfl) (by kernel_rfl) (fun _ _ _ h => h) (Or.inl ⟨by rfl, ?_⟩) (by assumption) ?_
      · (intro w hSw; (try dsimp only at hSw); go_simp)
      (try simp only [Act.put, List.getElem_toArray, List.getElem_cons_succ, List.getElem_cons_zero, List.setIfInBounds_toArray, List.set_cons_zero, List.set_cons_succ])
      refine wpAnyH_take (i := 12) (v := .int .i64 (q1)) rfl (by kernel_rfl) (by kernel_rfl) (by kernel_rfl) (fun _ _ _ h => h) (Or.inl ⟨by rfl, ?_⟩) (by assumption) ?_
      · (intro w hSw; (try dsimp only at hSw); go_simp)
      (try simp only [Act.put, List.getElem_toArray, List.getElem_cons_succ, List.getElem_cons_zero, List.setIfInBounds_toArray, List.set_cons_zero, List.set_cons_succ])
      refine wpAnyH_ready (rs := [13]) (by kernel_rfl) (by simp) ?_
      refine AllReadyH.cons rfl (fun K hK => ?_) AllReadyH.nil
      go_simp
      refine FDa.out.mono ?_
      rintro e w7 ⟨rfl, b7⟩
      have e0 := keepc b7 e0
      have e1 := keepc b7 e1
      have e2 := keepc b7 e2
      have e3 := keepc b7 e3
      have BD := hid (BD.out.trans (b7.mono BD.out.size))
      have BD5 := hid (BD5.out.trans (b7.mono BD5.out.size))
      clear b7
      refine hK.out _ _ ⟨e0, e1, e2, e3⟩ (fun hHeld => ?_)
      clear hK K
      (try simp only [Act.put, List.getElem_toArray, List.getElem_cons_succ, List.getElem_cons_zero, List.setIfInBounds_toArray, List.set_cons_zero, List.set_cons_succ])
      refine wpAnyH_take (i := 14) (v := .agg #[.int .i64 q4, .int .i64 q5]) rfl (by kernel_rfl) (by kernel_rfl) (by kernel_rfl) (fun _ _ _ h => h) (Or.inl ⟨by rfl, ?_⟩) (by assumption) ?_
      · (intro w hSw; (try dsimp only at hSw); go_simp)
      (try simp only [Act.put, List.getElem_toArray, List.getElem_cons_succ, List.getElem_cons_zero, List.setIfInBounds_toArray, List.set_cons_zero, List.set_cons_succ])
      refine wpAnyH_ready (rs := [15]) (by kernel_rfl) (by simp) ?_
      refine AllReadyH.cons rfl (fun K hK => ?_) AllReadyH.nil
      go_simp
      refine (rfits_any (C + mc) (M + mm) q4 q5 _).mono ?_
      rintro e w8 ⟨rfl, b8⟩
      have e0 := keepc b8 e0
      have e1 := keepc b8 e1
      have e2 := keepc b8 e2
      have e3 := keepc b8 e3
      have BD := hid (BD.out.trans (b8.mono BD.out.size))
      have BD5 := hid (BD5.out.trans (b8.mono BD5.out.size))
      clear b8
      rw [← FA.out]
      refine hK.out _ _ ⟨e0, e1, e2, e3⟩ (fun hHeld => ?_)
      clear hK K
      (try simp only [Act.put, List.getElem_toArray, List.getElem_cons_succ, List.getElem_cons_zero, List.setIfInBounds_toArray, List.set_cons_zero, List.set_cons_succ])
      refine wpAnyH_take (i := 16) (v := .bool (!FI)) rfl (by kernel_rfl) (by kernel_rfl) (by kernel_rfl) (fun _ _ _ h => h) (Or.inl ⟨by rfl, ?_⟩) (by assumption) ?_
      · (intro w hSw; (try dsimp only at hSw); go_simp)
      (try simp only [Act.put, List.getElem_toArray, List.getElem_cons_succ, List.getElem_cons_zero, List.setIfInBounds_toArray, List.set_cons_zero, List.set_cons_succ])
      refine wpAnyH_done (by kernel_rfl) ?_ _
      cases hfi : FI
      · rw [hfi] at NOi
        have EN := hid (NOi.out rfl)
        clear hfi
        go_wp2
        go_ret
        exact ⟨ret1 (HRES.out.trans EN.out).symm, HW0.out.trans (BD.out.mono HW0.out.size)⟩
      · rw [hfi] at NX
        have NG := hid (NX.out rfl)
        clear hfi
        go_wp2
        go_roundw
        case rel => exact ⟨k + 1, by omega, by go_num, NG, BD5.out⟩
        case measure => simp [intOf]; omega
    · have EY := hid (YES.out (fun j hj => hgo.out j (by rw [List.take_of_length_le (by omega)]; exact hj)))
      go_wp2
      go_ret
      exact ⟨ret1 (HRES.out.trans EY.out).symm, HW0.out.trans ((B5.out.trans (hB.out.mono B5.out.size)).mono HW0.out.size)⟩


theorem rroom_any (a : Option Addr) (len cap : Nat) (l : List Qu) (ub : Option Addr) (n uc : Nat) (us : List Us) (leaf mc mm : Int) (w : World) (h : HoldsQ w a len cap l) (hu : HoldsU w ub n uc us) :
    Calls Try.prog 17 #[.slice a len cap, .slice ub n uc, .int .i64 leaf, .agg #[.int .i64 mc, .int .i64 mm]] w fun e w' => e = .returned (.int .i64 (roomE l us leaf mc mm)) ∧ Below w.heap.size w w' := by
  by_cases hE : sumsE l us = 0
  · cases h1 : hasQ l leaf
    · have e : roomE l us leaf mc mm = 8 := by unfold roomE useE; simp [hE, h1]
      rw [e]; exact rroom_none a len cap l ub n uc us leaf mc mm w h hu hE h1
    · cases h2 : leafB l leaf
      · have e : roomE l us leaf mc mm = 14 := by unfold roomE useE; simp [hE, h1, h2]
        rw [e]; exact rroom_leaf a len cap l ub n uc us leaf mc mm w h hu hE h1 h2
      · cases h3 : okv (mc, mm)
        · have e : roomE l us leaf mc mm = 1 := by unfold roomE useE; simp [hE, h1, h2, chk_no h3]
          rw [e]; exact rroom_arg a len cap l ub n uc us leaf mc mm w h hu hE h1 h2 h3
        · have e : roomE l us leaf mc mm = pathE l us (pl l leaf) mc mm := by unfold roomE useE pathE; simp [hE, h1, h2, chk_ok h3]
          rw [e]; exact rroom_last a len cap l ub n uc us leaf mc mm w h hu hE h1 h2 h3
  · have e : roomE l us leaf mc mm = sumsE l us := by unfold roomE; rw [if_pos hE]
    rw [e]; exact rroom_sums a len cap l ub n uc us leaf mc mm w h hu hE

end Go.Proofs.Ytdomimpcjkajiaa
