/-
  Contracts of queue: Room of a right use; Room whole.
-/
import Derived.Test.YtdomimpcjkajiaaRV
import Derived.Test.YtdomimpcjkajiaaRQ
namespace Go.Proofs.Ytdomimpcjkajiaa
open Go.RowKit Go.Deep Go.Maps Go.Shelf
set_option linter.unusedVariables false
set_option linter.unusedSimpArgs false
attribute [local go_sem] Oper.semAt_some

theorem over_fit {C M mc mm D K : Int} (hq : okv (D, K) = true) (h1 : okv (C, M) = true) (h2 : okv (mc, mm) = true) (h : okv (C + mc, M + mm) = false) : fitB (C + mc) (M + mm) D K = false := by
  have a := okv_true hq
  have b := okv_true h1
  have c := okv_true h2
  have d := okv_false h
  unfold okp at a b c d
  simp only at a b c d
  unfold fitB
  simp
  omega

set_option maxRecDepth 100000 in
set_option maxHeartbeats 8000000 in
theorem room_last (a : Option Addr) (len cap : Nat) (l : List Qu) (ub : Option Addr) (n uc : Nat) (us : List Us) (leaf mc mm : Int) (w : World) (h : HoldsQ w a len cap l) (hok : ∀ q ∈ l, q.ok) (hu : HoldsU w ub n uc us) (hq : ∀ u ∈ us, I64 u.qu) (hlf : I64 leaf) (hS : sumsE l us = 0) (h1 : hasQ l leaf = true) (h2 : leafB l leaf = true) (h3 : okv (mc, mm) = true) :
    CallsIn Fence.wide 5 Try.prog 16 #[.slice a len cap, .slice ub n uc, .int .i64 leaf, .agg #[.int .i64 mc, .int .i64 mm]] w fun e w' => e = .returned (.int .i64 (pathE l us (pl l leaf) mc mm)) ∧ Below w.heap.size w w' := by
  have hB0 : Below w.heap.size w ((w.alloc (.cells #[.int .i64 mc, .int .i64 mm] 25)).alloc (.cells #[.int .i64 0] 29)) := ((Below.refl _ w).alloc (Nat.le_refl _) _).alloc (by simp) _
  have HR := hid (read_any a len cap l ((w.alloc (.cells #[.int .i64 mc, .int .i64 mm] 25)).alloc (.cells #[.int .i64 0] 29)) (h.below hB0) hok)
  have HU := hid (hu.below hB0)
  have HQ := hid hq
  have HL := hid h.1
  have LI := hid hlf
  have HB0 := hid hB0
  have k0 : ((w.alloc (.cells #[.int .i64 mc, .int .i64 mm] 25)).alloc (.cells #[.int .i64 0] 29)).cell? ⟨w.heap.size, 0, none⟩ = some (.int .i64 mc) := by simp [go_sem]
  have k1 : ((w.alloc (.cells #[.int .i64 mc, .int .i64 mm] 25)).alloc (.cells #[.int .i64 0] 29)).cell? ⟨w.heap.size, 1, none⟩ = some (.int .i64 mm) := by simp [go_sem]
  have k2 : ((w.alloc (.cells #[.int .i64 mc, .int .i64 mm] 25)).alloc (.cells #[.int .i64 0] 29)).cell? ⟨w.heap.size + 1, 0, none⟩ = some (.int .i64 0) := by simp [go_sem]
  have k3 : ((w.alloc (.cells #[.int .i64 mc, .int .i64 mm] 25)).alloc (.cells #[.int .i64 0] 29)).frozen? ⟨w.heap.size + 1, 0, none⟩ = false := by simp [go_sem]
  have K0 := hid k0
  have K1 := hid k1
  have K2 := hid k2
  have K3 := hid k3
  clear h hok hu hq hlf hB0 k0 k1 k2 k3
  have ER : Hid (sumsR l us = vecsTo l us l.length) := by unfold Hid sumsR; rw [if_pos hS]
  have HC := hid (sumsE_zero hS).1
  have FT := hid (sumsE_zero hS).2
  have SE := hid hS
  have UE : Hid (useE l ⟨leaf, mc, mm⟩ = 0) := by unfold Hid useE; rw [if_neg (by rw [h1]; decide), if_neg (by rw [h2]; decide)]; exact chk_ok h3
  have hi : pl l leaf < l.length := of_decide_eq_true h1
  have OV := hid h3
  have YES := hid (fun (h : ∀ i ∈ pth l (pl l leaf), fitAt l us mc mm i = true) => pathE_yes (us := us) h)
  have NO := hid (fun i (h : i ∈ pth l (pl l leaf)) (e : fitAt l us mc mm i = false) => pathE_no (us := us) h e)
  have AR := hid (chkE_ok.1 (sumsE_zero hS).1).2.2.1
  clear hS h1 h2 h3
  refine callsIn_of_wp_marks Try.func16 rfl trivial ?_ rfl
  simp only [Try.ntmps16, List.size_toArray, List.length_cons, List.length_nil, Nat.reduceAdd, Nat.reduceSub, Array.replicate_succ, Array.replicate_zero, List.push_toArray, List.append_toArray, List.nil_append, List.cons_append]
  gi_wp2_with fail
  refine ⟨trivial, ?_⟩
  refine (callsIn_wide.2 HR.out).mono ?_
  rintro e w1 ⟨h1 | h1, b1⟩
  rotate_left
  · exact absurd HC.out h1.1
  obtain ⟨_, lb, off, mb, rfl, rfl, hT⟩ := h1
  have B1 := hid (b1.alloc b1.size (.cells #[.slice (some ⟨lb, off, none⟩) len cap, .map (some mb)] 61))
  have hBA : Below w1.heap.size w1 (w1.alloc (.cells #[.slice (some ⟨lb, off, none⟩) len cap, .map (some mb)] 61)) := (Below.refl _ w1).alloc (Nat.le_refl _) _
  have T1 := hid (hT.below hBA)
  have SM := hid (sums_any lb off len cap mb l ub n uc us (w1.alloc (.cells #[.slice (some ⟨lb, off, none⟩) len cap, .map (some mb)] 61)) T1.out (HU.out.below B1.out) HQ.out HC.out)
  have t0 : (w1.alloc (.cells #[.slice (some ⟨lb, off, none⟩) len cap, .map (some mb)] 61)).cell? ⟨w1.heap.size, 0, none⟩ = some (.slice (some ⟨lb, off, none⟩) len cap) := by simp [go_sem]
  have t1 : (w1.alloc (.cells #[.slice (some ⟨lb, off, none⟩) len cap, .map (some mb)] 61)).cell? ⟨w1.heap.size, 1, none⟩ = some (.map (some mb)) := by simp [go_sem]
  have T0 := hid t0
  have T1c := hid t1
  have SZ1 := hid b1.size
  clear hT hBA b1 HR t0 t1
  gi_wp2_with fail
  refine ⟨trivial, ?_⟩
  refine (callsIn_wide.2 SM.out).mono ?_
  rintro e w2 ⟨v, rfl, o2, b2⟩
  obtain ⟨a2, c2, rfl, h2⟩ := o2.holds
  rw [ER.out, vecsTo_len, HL.out] at h2
  have LN : (sumsR l us).length = len := by rw [ER.out, vecsTo_len, HL.out]
  rw [SE.out, LN]
  clear LN
  have B2 := hid (B1.out.trans (b2.mono B1.out.size))
  have B3 := hid (B2.out.alloc B2.out.size (.cells #[.slice a2 len c2] 28))
  have bb : Below (w1.alloc (.cells #[.slice (some ⟨lb, off, none⟩) len cap, .map (some mb)] 61)).heap.size (w1.alloc (.cells #[.slice (some ⟨lb, off, none⟩) len cap, .map (some mb)] 61)) (w2.alloc (.cells #[.slice a2 len c2] 28)) := b2.alloc b2.size _
  have t0 := keepc bb T0.out
  have t1 := keepc bb T1c.out
  have TT := hid (T1.out.below bb)
  have s0 : (w2.alloc (.cells #[.slice a2 len c2] 28)).cell? ⟨w2.heap.size, 0, none⟩ = some (.slice a2 len c2) := by simp [go_sem]
  have S0 := hid s0
  have V2 := hid (h2.below ((Below.refl _ w2).alloc (Nat.le_refl _) (.cells #[.slice a2 len c2] 28)))
  have CU := hid (checkUse_any lb off len cap mb l ⟨leaf, mc, mm⟩ (w2.alloc (.cells #[.slice a2 len c2] 28)) TT.out LI.out)
  have k0 := keepc B3.out K0.out
  have k1 := keepc B3.out K1.out
  have k2 := keepc B3.out K2.out
  have k3 := keepf B3.out K2.out K3.out
  have T0' := hid t0
  have T1' := hid t1
  have SZ2 := hid b2.size
  clear b2 SM o2 h2 bb s0 T0 T1c
  rw [UE.out] at CU
  gi_wp2_with fail
  refine ⟨trivial, ?_⟩
  refine (callsIn_wide.2 CU.out).mono ?_
  rintro e w3 ⟨rfl, b3⟩
  have B4 := B3.out.trans (b3.mono B3.out.size)
  have T3 := TT.out.below b3
  have V3 := V2.out.below b3
  have s3 := keepc b3 S0.out
  clear t0 t1 k0 k1 k2 k3
  have t0 := keepc b3 T0'.out
  have t1 := keepc b3 T1'.out
  have sz3 := b3.size
  simp only [World.size_alloc] at sz3
  clear b3 CU T1 TT V2 S0 T0' T1' B1 B2 B3 HU
  gi_wp2_with (refine ⟨trivial, ?_⟩; gi_at_call 43; refine (callsIn_wide.2 (up_mk _ _ _ _ _ _ _)).mono ?_; rintro e w' ⟨rfl, rfl⟩)
  have hB3 : Below w3.heap.size w3 ((w3.alloc (.cells #[.slice (some ⟨lb, off, none⟩) len cap, .map (some mb)] 61)).alloc (.cells #[.int .i64 leaf] 3)) := ((Below.refl _ w3).alloc (Nat.le_refl _) _).alloc (by simp) _
  have hB5 := HB0.out.trans ((B4.trans (hB3.mono B4.size)).mono HB0.out.size)
  have hBk := B4.trans (hB3.mono B4.size)
  have hT0 := T3.below hB3
  obtain ⟨sb, so, rfl, hV0⟩ := V3.rowV (by rw [← HL.out]; omega)
  have mcap := V3.2.1
  have VR := hid (fun j hj => And.intro (keepc hB3 (hV0 j hj).1) (keepc hB3 (hV0 j hj).2))
  have s5 := keepc hB3 s3
  have t5 := keepc hB3 t0
  have k0 := keepc hBk K0.out
  have k1 := keepc hBk K1.out
  have k2 := keepc hBk K2.out
  have k3 := keepf hBk K2.out K3.out
  have ct0 : ((w3.alloc (.cells #[.slice (some ⟨lb, off, none⟩) len cap, .map (some mb)] 61)).alloc (.cells #[.int .i64 leaf] 3)).cell? ⟨w3.heap.size, 0, none⟩ = some (.slice (some ⟨lb, off, none⟩) len cap) := by simp [go_sem]
  have ct1 : ((w3.alloc (.cells #[.slice (some ⟨lb, off, none⟩) len cap, .map (some mb)] 61)).alloc (.cells #[.int .i64 leaf] 3)).cell? ⟨w3.heap.size, 1, none⟩ = some (.map (some mb)) := by simp [go_sem]
  have ci : ((w3.alloc (.cells #[.slice (some ⟨lb, off, none⟩) len cap, .map (some mb)] 61)).alloc (.cells #[.int .i64 leaf] 3)).cell? ⟨w3.heap.size + 1, 0, none⟩ = some (.int .i64 leaf) := by simp [go_sem]
  have hszW : ((w3.alloc (.cells #[.slice (some ⟨lb, off, none⟩) len cap, .map (some mb)] 61)).alloc (.cells #[.int .i64 leaf] 3)).heap.size = w3.heap.size + 2 := by simp
  have hlb := T3.row.1
  have hmb := T3.map.lt
  have hcap := T3.hcap
  have hle := T3.hle
  have szw := HB0.out.size
  have szb := B4.size
  clear t0 t1 s3 V3 hV0 T3 B4
  generalize ((w3.alloc (.cells #[.slice (some ⟨lb, off, none⟩) len cap, .map (some mb)] 61)).alloc (.cells #[.int .i64 leaf] 3)) = W0 at *
  refine wpIn_rangeFunc_ownF rfl (by omega) (gf := 81) (lb := #[.pointer (some ⟨w3.heap.size + 1, 0, none⟩), .pointer (some ⟨w3.heap.size, 0, none⟩)]) rfl trivial (enters_of Try.func81 (by kernel_rfl) rfl)
    (up_stops 4 (by omega) W0.heap.size W0.heap.size w3.heap.size (w3.heap.size + 1) lb off len cap mb l leaf W0 hT0 hi ct0 ct1 ci (by omega) (by omega) (by omega) (by omega) (by omega) (by omega) (by omega) (by omega) (Nat.le_refl _)) kq_t (kq_b (Nat.le_refl _)) (Below.refl _ _) (fun _ => rfl)
    (fun pre W => (∀ p ∈ pre, fitAt l us mc mm p.val = true) ∧ Below W0.heap.size W0 W)
    (fun j pre W => (j = .ret ∧ (∃ p ∈ pre, fitAt l us mc mm p.val = false) ∧ W.cell? ⟨w.heap.size + 1, 0, none⟩ = some (.int .i64 11)) ∧ Below w.heap.size w W)
    (OwnFrom.and (ownFrom_pure _ _) (ownFrom_below (Nat.le_refl _) (Nat.le_refl _)))
    (fun j => OwnFrom.and (Own.from (fun s A B row hs hg hr => ⟨hs.1, hs.2.1, cell_kept hs.2.2 hg hr⟩) _) (ownFrom_below (Nat.le_refl _) (by have := hB5.size; omega)))
    ⟨fun p hp => (by cases hp), Below.refl _ _⟩
    (fun x => { tmps := #[.slice (some ⟨lb, off, none⟩) len cap, .slice ub n uc, .int .i64 leaf, .agg #[.int .i64 mc, .int .i64 mm], undef, undef, undef, .pointer (some ⟨w.heap.size, 0, none⟩), .pointer (some ⟨w.heap.size + 1, 0, none⟩), .pointer (some ⟨w1.heap.size, 0, none⟩), .int .i64 0, .pointer (some ⟨w2.heap.size, 0, none⟩), .int .i64 0, .int .i64 (x.val : Int), undef, undef, .tuple #[.agg #[.slice (some ⟨lb, off, none⟩) len cap, .map (some mb)], .int .i64 0], .slice (some ⟨lb, off, none⟩) len cap, .tuple #[.agg #[.slice (some ⟨lb, off, none⟩) len cap, .map (some mb)], .int .i64 0], .agg #[.slice (some ⟨lb, off, none⟩) len cap, .map (some mb)], .int .i64 0, .int .i64 0, .bool false, undef, .tuple #[.slice (some ⟨sb, so, none⟩) len c2, .int .i64 0], .agg #[.slice (some ⟨lb, off, none⟩) len cap, .map (some mb)], .slice ub n uc, .tuple #[.slice (some ⟨sb, so, none⟩) len c2, .int .i64 0], .slice (some ⟨sb, so, none⟩) len c2, .int .i64 0, .int .i64 0, .bool false, undef, .agg #[.slice (some ⟨lb, off, none⟩) len cap, .map (some mb)], .int .i64 leaf, .agg #[.int .i64 mc, .int .i64 mm], .agg #[.int .i64 leaf, .int .i64 mc, .int .i64 mm], .int .i64 0, .int .i64 0, .bool false, undef, .agg #[.slice (some ⟨lb, off, none⟩) len cap, .map (some mb)], .int .i64 leaf, .func (.func 81) #[] #[.pointer (some ⟨w3.heap.size + 1, 0, none⟩), .pointer (some ⟨w3.heap.size, 0, none⟩)], .int .i64 (x.val : Int), undef, undef, undef, undef, undef, undef, undef, undef, undef, undef, undef, undef, undef, undef, undef, undef, undef, undef, undef, undef, undef, undef], defers := [] }) ?assign ?body ?done ?stop
  case assign =>
    intro lp x W K hK
    gi_wp2
    exact hK
  case body =>
    rintro lp pre x W ⟨hgo, hB⟩ _
    have hxl : x.val < len := Nat.lt_of_lt_of_eq x.2 HL.out
    obtain ⟨a0, a1⟩ := VR.out x.val hxl
    rw [va_vecs hxl] at a0 a1
    replace a0 := keepc hB a0
    replace a1 := keepc hB a1
    have hV := keepc hB s5
    have tc := keepc hB t5
    replace k0 := keepc hB k0
    replace k1 := keepc hB k1
    replace k3 := keepf hB k2 k3
    replace k2 := keepc hB k2
    obtain ⟨d0, d1', d2', d1, d2, d5, d6⟩ := (hT0.row.below hB).2 x.val x.2
    have hok := fits_at FT.out x.2
    have hqo := (arg_at AR.out (qa_mem x.2)).2.1
    have FA : Hid (fitAt l us mc mm x.val = fitB ((vecAt l us x.val).1 + mc) ((vecAt l us x.val).2 + mm) (qa l x.val).qc (qa l x.val).qm) := rfl
    have HG := hid hgo
    clear d0 d1' d2' d5 d6 hgo ct0 ct1 ci s5 t5 hT0
    generalize hfx : fitAt l us mc mm x.val = FX at *
    have HFX := hid hfx
    clear hfx
    generalize vecAt l us x.val = cv at *
    obtain ⟨C1, M1⟩ := cv
    generalize (qa l x.val).qc = D1 at *
    generalize (qa l x.val).qm = D2 at *
    simp only at *
    have xb : (x.val : Int) < (len : Int) := by omega
    have xa : (0 : Int) ≤ (x.val : Int) := by omega
    generalize hx : x.val = xi at *
    have HXi := hid hx
    clear hx
    obtain ⟨P1, P2, ER, hPV, hadd⟩ := add_split hok OV.out
    have HPV := hid hPV
    have HAD := hid hadd
    have HBW := hid hB
    have HK2 := hid k2
    have HK3 := hid k3
    have HTC := hid tc
    have HD1 := hid d1
    have HD2 := hid d2
    have HQO := hid hqo
    have HOK := hid hok
    clear hPV hadd hB k2 k3 tc d1 d2 hqo hok
    gi_wp2_with fail
    refine Code.wpIn_mono (Q := fun e a' w' => e = .normal ∧ ∃ (y45 y46 y47 y48 y49 y50 y51 y52 y53 : Value) (bx : Nat), W.heap.size ≤ bx ∧ Hid (Below W.heap.size W w') ∧ Hid (w'.cell? ⟨bx, 0, none⟩ = some (.int .i64 P1)) ∧ Hid (w'.cell? ⟨bx, 1, none⟩ = some (.int .i64 P2)) ∧ a' = { tmps := #[.slice (some ⟨lb, off, none⟩) len cap, .slice ub n uc, .int .i64 leaf, .agg #[.int .i64 mc, .int .i64 mm], undef, undef, undef, .pointer (some ⟨w.heap.size, 0, none⟩), .pointer (some ⟨w.heap.size + 1, 0, none⟩), .pointer (some ⟨w1.heap.size, 0, none⟩), .int .i64 0, .pointer (some ⟨w2.heap.size, 0, none⟩), .int .i64 0, .int .i64 (xi : Int), .pointer (some ⟨bx, 0, none⟩), .int .i64 ER, .tuple #[.agg #[.slice (some ⟨lb, off, none⟩) len cap, .map (some mb)], .int .i64 0], .slice (some ⟨lb, off, none⟩) len cap, .tuple #[.agg #[.slice (some ⟨lb, off, none⟩) len cap, .map (some mb)], .int .i64 0], .agg #[.slice (some ⟨lb, off, none⟩) len cap, .map (some mb)], .int .i64 0, .int .i64 0, .bool false, undef, .tuple #[.slice (some ⟨sb, so, none⟩) len c2, .int .i64 0], .agg #[.slice (some ⟨lb, off, none⟩) len cap, .map (some mb)], .slice ub n uc, .tuple #[.slice (some ⟨sb, so, none⟩) len c2, .int .i64 0], .slice (some ⟨sb, so, none⟩) len c2, .int .i64 0, .int .i64 0, .bool false, undef, .agg #[.slice (some ⟨lb, off, none⟩) len cap, .map (some mb)], .int .i64 leaf, .agg #[.int .i64 mc, .int .i64 mm], .agg #[.int .i64 leaf, .int .i64 mc, .int .i64 mm], .int .i64 0, .int .i64 0, .bool false, undef, .agg #[.slice (some ⟨lb, off, none⟩) len cap, .map (some mb)], .int .i64 leaf, .func (.func 81) #[] #[.pointer (some ⟨w3.heap.size + 1, 0, none⟩), .pointer (some ⟨w3.heap.size, 0, none⟩)], .int .i64 (xi : Int), y45, y46, y47, y48, y49, y50, y51, y52, y53, undef, undef, undef, undef, undef, undef, undef, undef, undef, undef, undef, undef, undef], defers := [] }) ?imp ?reg
    case reg =>
      have kW : Below W.heap.size W W.drew := (Below.refl _ W).drew
      have HE0 := hid hV
      have e0 := drewc hV
      have HE1 := hid a0
      have e1 := drewc a0
      have HE2 := hid a1
      have e2 := drewc a1
      have HE3 := hid k0
      have e3 := drewc k0
      have HE4 := hid k1
      have e4 := drewc k1
      clear hV a0 a1 k0 k1
      refine wpIn_round_held (S := (fun w' => w'.cell? ⟨w2.heap.size, 0, none⟩ = some (.slice (some ⟨sb, so, none⟩) len c2) ∧ w'.cell? ⟨sb, so + xi * 2, none⟩ = some (.int .i64 C1) ∧ w'.cell? ⟨sb, so + xi * 2 + 1, none⟩ = some (.int .i64 M1) ∧ w'.cell? ⟨w.heap.size, 0, none⟩ = some (.int .i64 mc) ∧ w'.cell? ⟨w.heap.size, 1, none⟩ = some (.int .i64 mm))) (by kernel_rfl) (by kernel_rfl) (fun h => by obtain ⟨_, _, h, _⟩ := h; cases h) ⟨e0, e1, e2, e3, e4⟩ (fun hHeld => ?_)
      refine wpAnyH_take (i := 0) (v := .slice (some ⟨sb, so, none⟩) len c2) rfl (by kernel_rfl) (by kernel_rfl) (by kernel_rfl) (fun _ _ _ h => nomatch h.1) (Or.inl ⟨by rfl, ?_⟩) (by assumption) ?_
      · (intro w hSw; (try dsimp only at hSw); go_simp)
      (try simp only [Act.put, List.getElem_toArray, List.getElem_cons_succ, List.getElem_cons_zero, List.setIfInBounds_toArray, List.set_cons_zero, List.set_cons_succ])
      refine wpAnyH_take (i := 1) (v := .int .i64 (xi : Int)) rfl (by kernel_rfl) (by kernel_rfl) (by kernel_rfl) (fun _ _ _ h => nomatch h.1) (Or.inl ⟨by rfl, ?_⟩) (by assumption) ?_
      · (intro w hSw; (try dsimp only at hSw); go_simp)
      (try simp only [Act.put, List.getElem_toArray, List.getElem_cons_succ, List.getElem_cons_zero, List.setIfInBounds_toArray, List.set_cons_zero, List.set_cons_succ])
      refine wpAnyH_take (i := 2) (v := .pointer (some ⟨sb, so + xi * 2, none⟩)) rfl (by kernel_rfl) (by kernel_rfl) (by kernel_rfl) (fun _ _ _ h => nomatch h.1) (Or.inl ⟨by rfl, ?_⟩) (by assumption) ?_
      · (intro w hSw; (try dsimp only at hSw); go_simp)
      (try simp only [Act.put, List.getElem_toArray, List.getElem_cons_succ, List.getElem_cons_zero, List.setIfInBounds_toArray, List.set_cons_zero, List.set_cons_succ])
      refine wpAnyH_take (i := 3) (v := .agg #[.int .i64 C1, .int .i64 M1]) rfl (by kernel_rfl) (by kernel_rfl) (by kernel_rfl) (fun _ _ _ h => nomatch h.1) (Or.inl ⟨by rfl, ?_⟩) (by assumption) ?_
      · (intro w hSw; (try dsimp only at hSw); go_simp)
      (try simp only [Act.put, List.getElem_toArray, List.getElem_cons_succ, List.getElem_cons_zero, List.setIfInBounds_toArray, List.set_cons_zero, List.set_cons_succ])
      refine wpAnyH_take (i := 4) (v := .agg #[.int .i64 mc, .int .i64 mm]) rfl (by kernel_rfl) (by kernel_rfl) (by kernel_rfl) (fun _ _ _ h => nomatch h.1) (Or.inl ⟨by rfl, ?_⟩) (by assumption) ?_
      · (intro w hSw; (try dsimp only at hSw); go_simp)
      (try simp only [Act.put, List.getElem_toArray, List.getElem_cons_succ, List.getElem_cons_zero, List.setIfInBounds_toArray, List.set_cons_zero, List.set_cons_succ])
      refine wpAnyH_ready (rs := [5, 9]) (by kernel_rfl) (by simp) ?_
      refine AllReadyH.cons rfl (fun K hK => ?_) (AllReadyH.cons rfl (fun K hK => ?_) AllReadyH.nil)
      · go_simp
        refine (HAD.out _).mono ?_
        rintro e v1 ⟨rfl, h1⟩
        have e0 := keepc h1 e0
        have e1 := keepc h1 e1
        have e2 := keepc h1 e2
        have e3 := keepc h1 e3
        have e4 := keepc h1 e4
        have j1 := kW.trans (h1.mono kW.size)
        clear h1 kW
        refine hK.out _ _ ⟨e0, e1, e2, e3, e4⟩ (fun hHeld => ?_)
        clear hK K
        (try simp only [Act.put, List.getElem_toArray, List.getElem_cons_succ, List.getElem_cons_zero, List.setIfInBounds_toArray, List.set_cons_zero, List.set_cons_succ])
        refine wpAnyH_take (i := 6) (v := .tuple #[.agg #[.int .i64 P1, .int .i64 P2], .int .i64 ER]) rfl (by kernel_rfl) (by kernel_rfl) (by kernel_rfl) (fun _ _ _ h => nomatch h.1) (Or.inl ⟨by rfl, ?_⟩) (by assumption) ?_
        · (intro w hSw; (try dsimp only at hSw); go_simp)
        (try simp only [Act.put, List.getElem_toArray, List.getElem_cons_succ, List.getElem_cons_zero, List.setIfInBounds_toArray, List.set_cons_zero, List.set_cons_succ])
        refine wpAnyH_take (i := 7) (v := .agg #[.int .i64 P1, .int .i64 P2]) rfl (by kernel_rfl) (by kernel_rfl) (by kernel_rfl) (fun _ _ _ h => nomatch h.1) (Or.inl ⟨by rfl, ?_⟩) (by assumption) ?_
        · (intro w hSw; (try dsimp only at hSw); go_simp)
        (try simp only [Act.put, List.getElem_toArray, List.getElem_cons_succ, List.getElem_cons_zero, List.setIfInBounds_toArray, List.set_cons_zero, List.set_cons_succ])
        refine wpAnyH_take (i := 8) (v := .int .i64 ER) rfl (by kernel_rfl) (by kernel_rfl) (by kernel_rfl) (fun _ _ _ h => nomatch h.1) (Or.inl ⟨by rfl, ?_⟩) (by assumption) ?_
        · (intro w hSw; (try dsimp only at hSw); go_simp)
        (try simp only [Act.put, List.getElem_toArray, List.getElem_cons_succ, List.getElem_cons_zero, List.setIfInBounds_toArray, List.set_cons_zero, List.set_cons_succ])
        refine wpAnyH_ready (rs := [9]) (by kernel_rfl) (by simp) ?_
        refine AllReadyH.cons rfl (fun K hK => ?_) AllReadyH.nil
        go_simp
        have kA : Below v1.heap.size v1 (v1.alloc (.cells #[.int .i64 0, .int .i64 0] 25)) := (Below.refl _ v1).alloc (Nat.le_refl _) _
        have e0 := keepc kA e0
        have e1 := keepc kA e1
        have e2 := keepc kA e2
        have e3 := keepc kA e3
        have e4 := keepc kA e4
        refine hK.out _ _ ⟨e0, e1, e2, e3, e4⟩ (fun hHeld => ?_)
        clear hK K
        (try simp only [Act.put, List.getElem_toArray, List.getElem_cons_succ, List.getElem_cons_zero, List.setIfInBounds_toArray, List.set_cons_zero, List.set_cons_succ])
        refine wpAnyH_ready (rs := [10]) (by kernel_rfl) (by simp) ?_
        refine AllReadyH.cons rfl (fun K hK => ?_) AllReadyH.nil
        go_simp
        have kB : Below W.heap.size W (v1.alloc (.cells #[.int .i64 P1, .int .i64 P2] 25)) := j1.alloc j1.size _
        clear e0 e1 e2 e3 e4
        have e0 := keepc kB HE0.out
        have e1 := keepc kB HE1.out
        have e2 := keepc kB HE2.out
        have e3 := keepc kB HE3.out
        have e4 := keepc kB HE4.out
        refine hK.out _ _ ⟨e0, e1, e2, e3, e4⟩ (fun hHeld => ?_)
        clear hK K
        (try simp only [Act.put, List.getElem_toArray, List.getElem_cons_succ, List.getElem_cons_zero, List.setIfInBounds_toArray, List.set_cons_zero, List.set_cons_succ])
        refine wpAnyH_take (i := 11) (v := .int .i64 ER) rfl (by kernel_rfl) (by kernel_rfl) (by kernel_rfl) (fun _ _ _ h => nomatch h.1) (Or.inl ⟨by rfl, ?_⟩) (by assumption) ?_
        · (intro w hSw; (try dsimp only at hSw); go_simp)
        (try simp only [Act.put, List.getElem_toArray, List.getElem_cons_succ, List.getElem_cons_zero, List.setIfInBounds_toArray, List.set_cons_zero, List.set_cons_succ])
        refine wpAnyH_done (by kernel_rfl) ?_ _
        exact ⟨rfl, _, _, _, _, _, _, _, _, _, _, j1.size, kB, hid (by simp [go_sem]), hid (by simp [go_sem]), rfl⟩
      · go_simp
        have kA : Below W.drew.heap.size W.drew (W.drew.alloc (.cells #[.int .i64 0, .int .i64 0] 25)) := (Below.refl _ W.drew).alloc (Nat.le_refl _) _
        have e0 := keepc kA e0
        have e1 := keepc kA e1
        have e2 := keepc kA e2
        have e3 := keepc kA e3
        have e4 := keepc kA e4
        have kW := kW.trans (kA.mono kW.size)
        clear kA
        refine hK.out _ _ ⟨e0, e1, e2, e3, e4⟩ (fun hHeld => ?_)
        clear hK K
        (try simp only [Act.put, List.getElem_toArray, List.getElem_cons_succ, List.getElem_cons_zero, List.setIfInBounds_toArray, List.set_cons_zero, List.set_cons_succ])
        refine wpAnyH_ready (rs := [5]) (by kernel_rfl) (by simp) ?_
        refine AllReadyH.cons rfl (fun K hK => ?_) AllReadyH.nil
        go_simp
        refine (HAD.out _).mono ?_
        rintro e v1 ⟨rfl, h1⟩
        have e0 := keepc h1 e0
        have e1 := keepc h1 e1
        have e2 := keepc h1 e2
        have e3 := keepc h1 e3
        have e4 := keepc h1 e4
        have j1 := kW.trans (h1.mono kW.size)
        have y0 := keepc h1 (a := ⟨W.heap.size, 0, none⟩) (v := .int .i64 0) (by simp [go_sem])
        have g0 := keepf h1 (a := ⟨W.heap.size, 0, none⟩) (v := .int .i64 0) (by simp [go_sem]) (by simp [go_sem])
        have y1 := keepc h1 (a := ⟨W.heap.size, 1, none⟩) (v := .int .i64 0) (by simp [go_sem])
        have g1 := keepf h1 (a := ⟨W.heap.size, 1, none⟩) (v := .int .i64 0) (by simp [go_sem]) (by simp [go_sem])
        clear h1 kW
        refine hK.out _ _ ⟨e0, e1, e2, e3, e4⟩ (fun hHeld => ?_)
        clear hK K
        (try simp only [Act.put, List.getElem_toArray, List.getElem_cons_succ, List.getElem_cons_zero, List.setIfInBounds_toArray, List.set_cons_zero, List.set_cons_succ])
        refine wpAnyH_take (i := 6) (v := .tuple #[.agg #[.int .i64 P1, .int .i64 P2], .int .i64 ER]) rfl (by kernel_rfl) (by kernel_rfl) (by kernel_rfl) (fun _ _ _ h => nomatch h.1) (Or.inl ⟨by rfl, ?_⟩) (by assumption) ?_
        · (intro w hSw; (try dsimp only at hSw); go_simp)
        (try simp only [Act.put, List.getElem_toArray, List.getElem_cons_succ, List.getElem_cons_zero, List.setIfInBounds_toArray, List.set_cons_zero, List.set_cons_succ])
        refine wpAnyH_take (i := 7) (v := .agg #[.int .i64 P1, .int .i64 P2]) rfl (by kernel_rfl) (by kernel_rfl) (by kernel_rfl) (fun _ _ _ h => nomatch h.1) (Or.inl ⟨by rfl, ?_⟩) (by assumption) ?_
        · (intro w hSw; (try dsimp only at hSw); go_simp)
        (try simp only [Act.put, List.getElem_toArray, List.getElem_cons_succ, List.getElem_cons_zero, List.setIfInBounds_toArray, List.set_cons_zero, List.set_cons_succ])
        refine wpAnyH_take (i := 8) (v := .int .i64 ER) rfl (by kernel_rfl) (by kernel_rfl) (by kernel_rfl) (fun _ _ _ h => nomatch h.1) (Or.inl ⟨by rfl, ?_⟩) (by assumption) ?_
        · (intro w hSw; (try dsimp only at hSw); go_simp)
        (try simp only [Act.put, List.getElem_toArray, List.getElem_cons_succ, List.getElem_cons_zero, List.setIfInBounds_toArray, List.set_cons_zero, List.set_cons_succ])
        refine wpAnyH_ready (rs := [10]) (by kernel_rfl) (by simp) ?_
        refine AllReadyH.cons rfl (fun K hK => ?_) AllReadyH.nil
        go_simp
        have kB : Below W.heap.size W ((v1.setCell ⟨W.heap.size, 0, none⟩ (.int .i64 P1)).setCell ⟨W.heap.size, 1, none⟩ (.int .i64 P2)) := (j1.setCell (p := ⟨W.heap.size, 0, none⟩) (Nat.le_refl _) (.int .i64 P1)).setCell (p := ⟨W.heap.size, 1, none⟩) (Nat.le_refl _) (.int .i64 P2)
        clear e0 e1 e2 e3 e4
        have e0 := keepc kB HE0.out
        have e1 := keepc kB HE1.out
        have e2 := keepc kB HE2.out
        have e3 := keepc kB HE3.out
        have e4 := keepc kB HE4.out
        refine hK.out _ _ ⟨e0, e1, e2, e3, e4⟩ (fun hHeld => ?_)
        clear hK K
        (try simp only [Act.put, List.getElem_toArray, List.getElem_cons_succ, List.getElem_cons_zero, List.setIfInBounds_toArray, List.set_cons_zero, List.set_cons_succ])
        refine wpAnyH_take (i := 11) (v := .int .i64 ER) rfl (by kernel_rfl) (by kernel_rfl) (by kernel_rfl) (fun _ _ _ h => nomatch h.1) (Or.inl ⟨by rfl, ?_⟩) (by assumption) ?_
        · (intro w hSw; (try dsimp only at hSw); go_simp)
        (try simp only [Act.put, List.getElem_toArray, List.getElem_cons_succ, List.getElem_cons_zero, List.setIfInBounds_toArray, List.set_cons_zero, List.set_cons_succ])
        refine wpAnyH_done (by kernel_rfl) ?_ _
        exact ⟨rfl, _, _, _, _, _, _, _, _, _, W.heap.size, Nat.le_refl _, kB, hid (by simp [go_sem, y0, y1]), hid (by simp [go_sem, y0, y1]), rfl⟩
    case imp =>
      rintro e a' wx ⟨rfl, y45, y46, y47, y48, y49, y50, y51, y52, y53, bx, hbx, k9, q0, q1, rfl⟩
      have hs9 := k9.out.size
      have z2 := keepc k9.out HK2.out
      have z3 := keepf k9.out HK2.out HK3.out
      have BX0 := k9
      have hsz8 := HBW.out.size
      have BX := hid (HBW.out.trans (k9.out.mono HBW.out.size))
      clear hV a0 a1 k0 k1
      rcases HPV.out with ⟨h3, rfl, rfl, rfl⟩ | ⟨h3, rfl, rfl, rfl⟩
      · have q0c := q0.out
        have q1c := q1.out
        have tc := keepc k9.out HTC.out
        have d1 := keepc k9.out HD1.out
        have d2 := keepc k9.out HD2.out
        clear HPV h3
        gi_wp2_with fail
        refine Code.wpIn_mono (Q := fun e a' w' => e = .normal ∧ ∃ (z54 z55 z56 z57 z58 z59 z60 z61 z62 z63 z64 z65 : Value), Hid (Below wx.heap.size wx w') ∧ a' = { tmps := #[.slice (some ⟨lb, off, none⟩) len cap, .slice ub n uc, .int .i64 leaf, .agg #[.int .i64 mc, .int .i64 mm], undef, undef, undef, .pointer (some ⟨w.heap.size, 0, none⟩), .pointer (some ⟨w.heap.size + 1, 0, none⟩), .pointer (some ⟨w1.heap.size, 0, none⟩), .int .i64 0, .pointer (some ⟨w2.heap.size, 0, none⟩), .int .i64 0, .int .i64 (xi : Int), .pointer (some ⟨bx, 0, none⟩), .int .i64 0, .tuple #[.agg #[.slice (some ⟨lb, off, none⟩) len cap, .map (some mb)], .int .i64 0], .slice (some ⟨lb, off, none⟩) len cap, .tuple #[.agg #[.slice (some ⟨lb, off, none⟩) len cap, .map (some mb)], .int .i64 0], .agg #[.slice (some ⟨lb, off, none⟩) len cap, .map (some mb)], .int .i64 0, .int .i64 0, .bool false, undef, .tuple #[.slice (some ⟨sb, so, none⟩) len c2, .int .i64 0], .agg #[.slice (some ⟨lb, off, none⟩) len cap, .map (some mb)], .slice ub n uc, .tuple #[.slice (some ⟨sb, so, none⟩) len c2, .int .i64 0], .slice (some ⟨sb, so, none⟩) len c2, .int .i64 0, .int .i64 0, .bool false, undef, .agg #[.slice (some ⟨lb, off, none⟩) len cap, .map (some mb)], .int .i64 leaf, .agg #[.int .i64 mc, .int .i64 mm], .agg #[.int .i64 leaf, .int .i64 mc, .int .i64 mm], .int .i64 0, .int .i64 0, .bool false, undef, .agg #[.slice (some ⟨lb, off, none⟩) len cap, .map (some mb)], .int .i64 leaf, .func (.func 81) #[] #[.pointer (some ⟨w3.heap.size + 1, 0, none⟩), .pointer (some ⟨w3.heap.size, 0, none⟩)], .int .i64 (xi : Int), y45, y46, y47, y48, y49, y50, y51, y52, y53, z54, z55, z56, z57, z58, z59, z60, z61, z62, z63, z64, z65, .bool (!fitB (C1 + mc) (M1 + mm) D1 D2)], defers := [] }) ?imp2 ?reg2
        case reg2 =>
          have kW : Below wx.heap.size wx wx.drew := (Below.refl _ wx).drew
          have e0 := drewc q0c
          have e1 := drewc q1c
          have e2 := drewc tc
          have e3 := drewc d1
          have e4 := drewc d2
          clear q0c q1c tc d1 d2
          refine wpIn_round_held (S := (fun w' => w'.cell? ⟨bx, 0, none⟩ = some (.int .i64 (C1 + mc)) ∧ w'.cell? ⟨bx, 1, none⟩ = some (.int .i64 (M1 + mm)) ∧ w'.cell? ⟨w1.heap.size, 0, none⟩ = some (.slice (some ⟨lb, off, none⟩) len cap) ∧ w'.cell? ⟨lb, off + xi * 7 + 3, none⟩ = some (.int .i64 D1) ∧ w'.cell? ⟨lb, off + xi * 7 + 4, none⟩ = some (.int .i64 D2))) (by kernel_rfl) (by kernel_rfl) (fun h => by obtain ⟨_, _, h, _⟩ := h; cases h) ⟨e0, e1, e2, e3, e4⟩ (fun hHeld => ?_)
          refine wpAnyH_take (i := 0) (v := .int .i64 0) rfl (by kernel_rfl) (by kernel_rfl) (by kernel_rfl) (fun _ _ _ h => nomatch h.1) (Or.inl ⟨by rfl, ?_⟩) (by assumption) ?_
          · (intro w hSw; (try dsimp only at hSw); go_simp)
          (try simp only [Act.put, List.getElem_toArray, List.getElem_cons_succ, List.getElem_cons_zero, List.setIfInBounds_toArray, List.set_cons_zero, List.set_cons_succ])
          refine wpAnyH_take (i := 1) (v := .bool false) rfl (by kernel_rfl) (by kernel_rfl) (by kernel_rfl) (fun _ _ _ h => nomatch h.1) (Or.inl ⟨by rfl, ?_⟩) (by assumption) ?_
          · (intro w hSw; (try dsimp only at hSw); go_simp)
          (try simp only [Act.put, List.getElem_toArray, List.getElem_cons_succ, List.getElem_cons_zero, List.setIfInBounds_toArray, List.set_cons_zero, List.set_cons_succ])
          refine wpAnyH_take (i := 2) (v := .bool false) rfl (by kernel_rfl) (by kernel_rfl) (by kernel_rfl) (fun _ _ _ h => nomatch h.1) (Or.inl ⟨by rfl, ?_⟩) (by assumption) ?_
          · (intro w hSw; (try dsimp only at hSw); go_simp)
          (try simp only [Act.put, List.getElem_toArray, List.getElem_cons_succ, List.getElem_cons_zero, List.setIfInBounds_toArray, List.set_cons_zero, List.set_cons_succ])
          refine wpAnyH_take (i := 3) (v := .agg #[.int .i64 (C1 + mc), .int .i64 (M1 + mm)]) rfl (by kernel_rfl) (by kernel_rfl) (by kernel_rfl) (fun _ _ _ h => nomatch h.1) (Or.inl ⟨by rfl, ?_⟩) (by assumption) ?_
          · (intro w hSw; (try dsimp only at hSw); go_simp)
          (try simp only [Act.put, List.getElem_toArray, List.getElem_cons_succ, List.getElem_cons_zero, List.setIfInBounds_toArray, List.set_cons_zero, List.set_cons_succ])
          refine wpAnyH_take (i := 4) (v := .pointer (some ⟨w1.heap.size, 0, none⟩)) rfl (by kernel_rfl) (by kernel_rfl) (by kernel_rfl) (fun _ _ _ h => nomatch h.1) (Or.inl ⟨by rfl, ?_⟩) (by assumption) ?_
          · (intro w hSw; (try dsimp only at hSw); go_simp)
          (try simp only [Act.put, List.getElem_toArray, List.getElem_cons_succ, List.getElem_cons_zero, List.setIfInBounds_toArray, List.set_cons_zero, List.set_cons_succ])
          refine wpAnyH_take (i := 5) (v := .slice (some ⟨lb, off, none⟩) len cap) rfl (by kernel_rfl) (by kernel_rfl) (by kernel_rfl) (fun _ _ _ h => nomatch h.1) (Or.inl ⟨by rfl, ?_⟩) (by assumption) ?_
          · (intro w hSw; (try dsimp only at hSw); go_simp)
          (try simp only [Act.put, List.getElem_toArray, List.getElem_cons_succ, List.getElem_cons_zero, List.setIfInBounds_toArray, List.set_cons_zero, List.set_cons_succ])
          refine wpAnyH_take (i := 6) (v := .int .i64 (xi : Int)) rfl (by kernel_rfl) (by kernel_rfl) (by kernel_rfl) (fun _ _ _ h => nomatch h.1) (Or.inl ⟨by rfl, ?_⟩) (by assumption) ?_
          · (intro w hSw; (try dsimp only at hSw); go_simp)
          (try simp only [Act.put, List.getElem_toArray, List.getElem_cons_succ, List.getElem_cons_zero, List.setIfInBounds_toArray, List.set_cons_zero, List.set_cons_succ])
          refine wpAnyH_take (i := 7) (v := .pointer (some ⟨lb, off + xi * 7, none⟩)) rfl (by kernel_rfl) (by kernel_rfl) (by kernel_rfl) (fun _ _ _ h => nomatch h.1) (Or.inl ⟨by rfl, ?_⟩) (by assumption) ?_
          · (intro w hSw; (try dsimp only at hSw); go_simp)
          (try simp only [Act.put, List.getElem_toArray, List.getElem_cons_succ, List.getElem_cons_zero, List.setIfInBounds_toArray, List.set_cons_zero, List.set_cons_succ])
          refine wpAnyH_take (i := 8) (v := .pointer (some ⟨lb, off + xi * 7 + 3, none⟩)) rfl (by kernel_rfl) (by kernel_rfl) (by kernel_rfl) (fun _ _ _ h => nomatch h.1) (Or.inl ⟨by rfl, ?_⟩) (by assumption) ?_
          · (intro w hSw; (try dsimp only at hSw); go_simp)
          (try simp only [Act.put, List.getElem_toArray, List.getElem_cons_succ, List.getElem_cons_zero, List.setIfInBounds_toArray, List.set_cons_zero, List.set_cons_succ])
          refine wpAnyH_take (i := 9) (v := .agg #[.int .i64 D1, .int .i64 D2]) rfl (by kernel_rfl) (by kernel_rfl) (by kernel_rfl) (fun _ _ _ h => nomatch h.1) (Or.inl ⟨by rfl, ?_⟩) (by assumption) ?_
          · (intro w hSw; (try dsimp only at hSw); go_simp)
          (try simp only [Act.put, List.getElem_toArray, List.getElem_cons_succ, List.getElem_cons_zero, List.setIfInBounds_toArray, List.set_cons_zero, List.set_cons_succ])
          refine wpAnyH_ready (rs := [10]) (by kernel_rfl) (by simp) ?_
          refine AllReadyH.cons rfl (fun K hK => ?_) AllReadyH.nil
          go_simp
          refine (fits_any (C1 + mc) (M1 + mm) D1 D2 _).mono ?_
          rintro e v2 ⟨rfl, h2⟩
          have e0 := keepc h2 e0
          have e1 := keepc h2 e1
          have e2 := keepc h2 e2
          have e3 := keepc h2 e3
          have e4 := keepc h2 e4
          have kB := hid (kW.trans (h2.mono kW.size))
          clear h2 kW
          refine hK.out _ _ ⟨e0, e1, e2, e3, e4⟩ (fun hHeld => ?_)
          clear hK K
          (try simp only [Act.put, List.getElem_toArray, List.getElem_cons_succ, List.getElem_cons_zero, List.setIfInBounds_toArray, List.set_cons_zero, List.set_cons_succ])
          refine wpAnyH_take (i := 11) (v := .bool (!fitB (C1 + mc) (M1 + mm) D1 D2)) rfl (by kernel_rfl) (by kernel_rfl) (by kernel_rfl) (fun _ _ _ h => nomatch h.1) (Or.inl ⟨by rfl, ?_⟩) (by assumption) ?_
          · (intro w hSw; (try dsimp only at hSw); go_simp)
          (try simp only [Act.put, List.getElem_toArray, List.getElem_cons_succ, List.getElem_cons_zero, List.setIfInBounds_toArray, List.set_cons_zero, List.set_cons_succ])
          refine wpAnyH_take (i := 12) (v := .bool (!fitB (C1 + mc) (M1 + mm) D1 D2)) rfl (by kernel_rfl) (by kernel_rfl) (by kernel_rfl) (fun _ _ _ h => nomatch h.1) (Or.inl ⟨by rfl, ?_⟩) (by assumption) ?_
          · (intro w hSw; (try dsimp only at hSw); go_simp)
          (try simp only [Act.put, List.getElem_toArray, List.getElem_cons_succ, List.getElem_cons_zero, List.setIfInBounds_toArray, List.set_cons_zero, List.set_cons_succ])
          refine wpAnyH_done (by kernel_rfl) ?_ _
          exact ⟨rfl, _, _, _, _, _, _, _, _, _, _, _, _, kB, rfl⟩
        case imp2 =>
          clear q0c q1c tc d1 d2
          rintro e a' wy ⟨rfl, z54, z55, z56, z57, z58, z59, z60, z61, z62, z63, z64, z65, ky, rfl⟩
          have z4 := keepc ky.out z2
          have z5 := keepf ky.out z2 z3
          have BY := hid (BX.out.trans (ky.out.mono BX.out.size))
          have KY := hid ((keepsOthers_below' k9.out).trans (keepsOthers_below' ky.out))
          clear z2 z3
          cases hf : fitB (C1 + mc) (M1 + mm) D1 D2
          · gi_wp2
            refine ⟨KY.out.trans (KeepsOthers.setCell _ _ _), ⟨rfl, ⟨x, by simp, by rw [HXi.out, HFX.out, FA.out]; exact hf⟩, World.cell?_setCell_same' _ _ _ (by rw [z4]; rfl)⟩, (hB5.trans (BY.out.mono hB5.size)).setCell (p := ⟨w.heap.size + 1, 0, none⟩) (by simp) _⟩
          · gi_wp2
            refine ⟨KY.out, kq_below (BX0.out.trans (ky.out.mono BX0.out.size)) hsz8, fun p hp => ?_, BY.out⟩
            rcases List.mem_append.1 hp with hp | hp
            · exact HG.out p hp
            · simp at hp; rw [hp, HXi.out, HFX.out, FA.out]; exact hf
      · clear HPV
        have hnf : fitB (C1 + mc) (M1 + mm) D1 D2 = false := over_fit HQO.out HOK.out OV.out h3
        gi_wp2_with fail
        refine Code.wpIn_mono (Q := fun e a' w' => e = .normal ∧ ∃ (z54 z55 z56 z57 z58 z59 z60 z61 z62 z63 z64 z65 : Value), Hid (Below wx.heap.size wx w') ∧ a' = { tmps := #[.slice (some ⟨lb, off, none⟩) len cap, .slice ub n uc, .int .i64 leaf, .agg #[.int .i64 mc, .int .i64 mm], undef, undef, undef, .pointer (some ⟨w.heap.size, 0, none⟩), .pointer (some ⟨w.heap.size + 1, 0, none⟩), .pointer (some ⟨w1.heap.size, 0, none⟩), .int .i64 0, .pointer (some ⟨w2.heap.size, 0, none⟩), .int .i64 0, .int .i64 (xi : Int), .pointer (some ⟨bx, 0, none⟩), .int .i64 2, .tuple #[.agg #[.slice (some ⟨lb, off, none⟩) len cap, .map (some mb)], .int .i64 0], .slice (some ⟨lb, off, none⟩) len cap, .tuple #[.agg #[.slice (some ⟨lb, off, none⟩) len cap, .map (some mb)], .int .i64 0], .agg #[.slice (some ⟨lb, off, none⟩) len cap, .map (some mb)], .int .i64 0, .int .i64 0, .bool false, undef, .tuple #[.slice (some ⟨sb, so, none⟩) len c2, .int .i64 0], .agg #[.slice (some ⟨lb, off, none⟩) len cap, .map (some mb)], .slice ub n uc, .tuple #[.slice (some ⟨sb, so, none⟩) len c2, .int .i64 0], .slice (some ⟨sb, so, none⟩) len c2, .int .i64 0, .int .i64 0, .bool false, undef, .agg #[.slice (some ⟨lb, off, none⟩) len cap, .map (some mb)], .int .i64 leaf, .agg #[.int .i64 mc, .int .i64 mm], .agg #[.int .i64 leaf, .int .i64 mc, .int .i64 mm], .int .i64 0, .int .i64 0, .bool false, undef, .agg #[.slice (some ⟨lb, off, none⟩) len cap, .map (some mb)], .int .i64 leaf, .func (.func 81) #[] #[.pointer (some ⟨w3.heap.size + 1, 0, none⟩), .pointer (some ⟨w3.heap.size, 0, none⟩)], .int .i64 (xi : Int), y45, y46, y47, y48, y49, y50, y51, y52, y53, z54, z55, z56, z57, z58, z59, z60, z61, z62, z63, z64, z65, .bool true], defers := [] }) ?imp2 ?reg2
        case reg2 =>
          refine wpIn_round_held (S := (fun w' => True)) (by kernel_rfl) (by kernel_rfl) (fun h => by obtain ⟨_, _, h, _⟩ := h; cases h) trivial (fun hHeld => ?_)
          refine wpAnyH_take (i := 0) (v := .int .i64 2) rfl (by kernel_rfl) (by kernel_rfl) (by kernel_rfl) (fun _ _ _ h => nomatch h.1) (Or.inl ⟨by rfl, ?_⟩) (by assumption) ?_
          · (intro w hSw; (try dsimp only at hSw); go_simp)
          (try simp only [Act.put, List.getElem_toArray, List.getElem_cons_succ, List.getElem_cons_zero, List.setIfInBounds_toArray, List.set_cons_zero, List.set_cons_succ])
          refine wpAnyH_take (i := 1) (v := .bool true) rfl (by kernel_rfl) (by kernel_rfl) (by kernel_rfl) (fun _ _ _ h => nomatch h.1) (Or.inl ⟨by rfl, ?_⟩) (by assumption) ?_
          · (intro w hSw; (try dsimp only at hSw); go_simp)
          (try simp only [Act.put, List.getElem_toArray, List.getElem_cons_succ, List.getElem_cons_zero, List.setIfInBounds_toArray, List.set_cons_zero, List.set_cons_succ])
          refine wpAnyH_take (i := 2) (v := .bool true) rfl (by kernel_rfl) (by kernel_rfl) (by kernel_rfl) (fun _ _ _ h => nomatch h.1) (Or.inl ⟨by rfl, ?_⟩) (by assumption) ?_
          · (intro w hSw; (try dsimp only at hSw); go_simp)
          (try simp only [Act.put, List.getElem_toArray, List.getElem_cons_succ, List.getElem_cons_zero, List.setIfInBounds_toArray, List.set_cons_zero, List.set_cons_succ])
          refine wpAnyH_take (i := 3) (v := undef) rfl (by kernel_rfl) (by kernel_rfl) (by kernel_rfl) (fun _ _ _ h => nomatch h.1) (Or.inr ⟨by rfl, rfl⟩) (by assumption) ?_
          (try simp only [Act.put, List.getElem_toArray, List.getElem_cons_succ, List.getElem_cons_zero, List.setIfInBounds_toArray, List.set_cons_zero, List.set_cons_succ])
          refine wpAnyH_take (i := 4) (v := undef) rfl (by kernel_rfl) (by kernel_rfl) (by kernel_rfl) (fun _ _ _ h => nomatch h.1) (Or.inr ⟨by rfl, rfl⟩) (by assumption) ?_
          (try simp only [Act.put, List.getElem_toArray, List.getElem_cons_succ, List.getElem_cons_zero, List.setIfInBounds_toArray, List.set_cons_zero, List.set_cons_succ])
          refine wpAnyH_take (i := 5) (v := undef) rfl (by kernel_rfl) (by kernel_rfl) (by kernel_rfl) (fun _ _ _ h => nomatch h.1) (Or.inr ⟨by rfl, rfl⟩) (by assumption) ?_
          (try simp only [Act.put, List.getElem_toArray, List.getElem_cons_succ, List.getElem_cons_zero, List.setIfInBounds_toArray, List.set_cons_zero, List.set_cons_succ])
          refine wpAnyH_take (i := 6) (v := undef) rfl (by kernel_rfl) (by kernel_rfl) (by kernel_rfl) (fun _ _ _ h => nomatch h.1) (Or.inr ⟨by rfl, rfl⟩) (by assumption) ?_
          (try simp only [Act.put, List.getElem_toArray, List.getElem_cons_succ, List.getElem_cons_zero, List.setIfInBounds_toArray, List.set_cons_zero, List.set_cons_succ])
          refine wpAnyH_take (i := 7) (v := undef) rfl (by kernel_rfl) (by kernel_rfl) (by kernel_rfl) (fun _ _ _ h => nomatch h.1) (Or.inr ⟨by rfl, rfl⟩) (by assumption) ?_
          (try simp only [Act.put, List.getElem_toArray, List.getElem_cons_succ, List.getElem_cons_zero, List.setIfInBounds_toArray, List.set_cons_zero, List.set_cons_succ])
          refine wpAnyH_take (i := 8) (v := undef) rfl (by kernel_rfl) (by kernel_rfl) (by kernel_rfl) (fun _ _ _ h => nomatch h.1) (Or.inr ⟨by rfl, rfl⟩) (by assumption) ?_
          (try simp only [Act.put, List.getElem_toArray, List.getElem_cons_succ, List.getElem_cons_zero, List.setIfInBounds_toArray, List.set_cons_zero, List.set_cons_succ])
          refine wpAnyH_take (i := 9) (v := undef) rfl (by kernel_rfl) (by kernel_rfl) (by kernel_rfl) (fun _ _ _ h => nomatch h.1) (Or.inr ⟨by rfl, rfl⟩) (by assumption) ?_
          (try simp only [Act.put, List.getElem_toArray, List.getElem_cons_succ, List.getElem_cons_zero, List.setIfInBounds_toArray, List.set_cons_zero, List.set_cons_succ])
          refine wpAnyH_take (i := 10) (v := undef) rfl (by kernel_rfl) (by kernel_rfl) (by kernel_rfl) (fun _ _ _ h => nomatch h.1) (Or.inr ⟨by rfl, rfl⟩) (by assumption) ?_
          (try simp only [Act.put, List.getElem_toArray, List.getElem_cons_succ, List.getElem_cons_zero, List.setIfInBounds_toArray, List.set_cons_zero, List.set_cons_succ])
          refine wpAnyH_take (i := 11) (v := undef) rfl (by kernel_rfl) (by kernel_rfl) (by kernel_rfl) (fun _ _ _ h => nomatch h.1) (Or.inr ⟨by rfl, rfl⟩) (by assumption) ?_
          (try simp only [Act.put, List.getElem_toArray, List.getElem_cons_succ, List.getElem_cons_zero, List.setIfInBounds_toArray, List.set_cons_zero, List.set_cons_succ])
          refine wpAnyH_take (i := 12) (v := .bool true) rfl (by kernel_rfl) (by kernel_rfl) (by kernel_rfl) (fun _ _ _ h => nomatch h.1) (Or.inl ⟨by rfl, ?_⟩) (by assumption) ?_
          · (intro w hSw; (try dsimp only at hSw); go_simp)
          (try simp only [Act.put, List.getElem_toArray, List.getElem_cons_succ, List.getElem_cons_zero, List.setIfInBounds_toArray, List.set_cons_zero, List.set_cons_succ])
          refine wpAnyH_done (by kernel_rfl) ?_ _
          exact ⟨rfl, _, _, _, _, _, _, _, _, _, _, _, _, hid ((Below.refl _ wx).drew), rfl⟩
        case imp2 =>
          rintro e a' wy ⟨rfl, z54, z55, z56, z57, z58, z59, z60, z61, z62, z63, z64, z65, ky, rfl⟩
          have z4 := keepc ky.out z2
          have z5 := keepf ky.out z2 z3
          have BY := hid (BX.out.trans (ky.out.mono BX.out.size))
          have KY := hid ((keepsOthers_below' k9.out).trans (keepsOthers_below' ky.out))
          clear z2 z3
          gi_wp2
          refine ⟨KY.out.trans (KeepsOthers.setCell _ _ _), ⟨rfl, ⟨x, by simp, by rw [HXi.out, HFX.out, FA.out]; exact hnf⟩, World.cell?_setCell_same' _ _ _ (by rw [z4]; rfl)⟩, (hB5.trans (BY.out.mono hB5.size)).setCell (p := ⟨w.heap.size + 1, 0, none⟩) (by simp) _⟩
  case done =>
    rintro D ys W hD rfl ⟨hgo, hB⟩ hK
    have r2 := keepc hB k2
    have r3 := keepf hB k2 k3
    have hall := YES.out (fun i hi' => by rw [← pthF_map _ hi] at hi'; obtain ⟨p, hp, rfl⟩ := List.mem_map.1 hi'; exact hgo p hp)
    clear k0 k1 k2 k3 s5 t5 ct0 ct1 ci
    gi_wp2
    have hK' := (KeepsOthers.setCell W ⟨w.heap.size + 1, 0, none⟩ (.int .i64 0)).same D _ hK rfl
    refine ⟨by simp, .inl ⟨_, _, rfl, run_takeDeferred hK', ?_⟩⟩
    have hc5 := cell_kept (World.cell?_setCell_same' W ⟨w.heap.size + 1, 0, none⟩ (.int .i64 0) (by rw [r2]; rfl)) (grownBy_putObj' _ D (.deferred none)) (fun r e => by cases e; exact ⟨_, hK', rfl⟩)
    have hBW := hB5.trans (hB.mono hB5.size)
    refine ⟨.int .i64 0, ?_, by rw [hall], (hBW.setCell (p := ⟨w.heap.size + 1, 0, none⟩) (by simp) _).trans (belowK_b (w := w) (Nat.le_refl _) _ D _ _ (by have := hB5.size; omega) hK' rfl rfl)⟩
    simp [results, Try.f16, go_sem, hc5]
  case stop =>
    rintro D j pre W hD ⟨hp1, hp2⟩ ⟨⟨rfl, ⟨p, hp, hno⟩, hc⟩, hB⟩ hK
    gi_wp2
    refine ⟨by simp, .inl ⟨_, _, rfl, run_takeDeferred hK, ?_⟩⟩
    have hc5 := cell_kept hc (grownBy_putObj' _ D (.deferred none)) (fun r e => by cases e; exact ⟨_, hK, rfl⟩)
    have hnn := NO.out p.val (by rw [← pthF_map _ hi]; exact List.mem_map_of_mem (hp2.subset hp)) hno
    refine ⟨.int .i64 11, ?_, by rw [hnn], hB.trans (belowK_b (w := w) (Nat.le_refl _) W D _ _ (by have := hB5.size; omega) hK rfl rfl)⟩
    simp [results, Try.f16, go_sem, hc5]

theorem qroom_any (a : Option Addr) (len cap : Nat) (l : List Qu) (ub : Option Addr) (n uc : Nat) (us : List Us) (leaf mc mm : Int) (w : World) (h : HoldsQ w a len cap l) (hok : ∀ q ∈ l, q.ok) (hu : HoldsU w ub n uc us) (hq : ∀ u ∈ us, I64 u.qu) (hlf : I64 leaf) :
    Calls Try.prog 16 #[.slice a len cap, .slice ub n uc, .int .i64 leaf, .agg #[.int .i64 mc, .int .i64 mm]] w fun e w' => e = .returned (.int .i64 (roomE l us leaf mc mm)) ∧ Below w.heap.size w w' := by
  by_cases hE : sumsE l us = 0
  · by_cases hU : useE l ⟨leaf, mc, mm⟩ = 0
    · have hz := useE_zero hU
      have e : roomE l us leaf mc mm = pathE l us (pl l leaf) mc mm := by unfold roomE pathE; simp [hE, hU]
      rw [e]; exact callsIn_wide.1 (room_last a len cap l ub n uc us leaf mc mm w h hok hu hq hlf hE hz.1 hz.2.1 (okv_of hz.2.2.1 hz.2.2.2))
    · have e : roomE l us leaf mc mm = useE l ⟨leaf, mc, mm⟩ := by unfold roomE; rw [if_neg (by rw [hE]; decide), if_pos hU]
      rw [e]; exact room_use a len cap l ub n uc us leaf mc mm w h hok hu hq hlf hE _ rfl hU
  · have e : roomE l us leaf mc mm = sumsE l us := by unfold roomE; rw [if_pos hE]
    rw [e]
    by_cases hC : chkE l = 0
    · exact room_sums a len cap l ub n uc us leaf mc mm w h hok hu hq hlf hC _ rfl hE
    · have e2 : sumsE l us = chkE l := by unfold sumsE; rw [if_pos hC]
      rw [e2]; exact room_list a len cap l ub n uc us leaf mc mm w h hok hu hq hlf _ rfl hC

end Go.Proofs.Ytdomimpcjkajiaa
