/-
  Contracts of queue: Room.
-/
import Derived.Test.YtdomimpcjkajiaaRU
import Derived.Test.YtdomimpcjkajiaaRQ
namespace Go.Proofs.Ytdomimpcjkajiaa
open Go.RowKit Go.Deep Go.Maps Go.Shelf
set_option linter.unusedVariables false
set_option linter.unusedSimpArgs false
attribute [local go_sem] Oper.semAt_some

set_option maxRecDepth 100000 in
set_option maxHeartbeats 8000000 in
theorem room_list (a : Option Addr) (len cap : Nat) (l : List Qu) (ub : Option Addr) (n uc : Nat) (us : List Us) (leaf mc mm : Int) (w : World) (h : HoldsQ w a len cap l) (hok : ∀ q ∈ l, q.ok) (hu : HoldsU w ub n uc us) (hq : ∀ u ∈ us, I64 u.qu) (hlf : I64 leaf) (E : Int) (hE : chkE l = E) (hE0 : E ≠ 0) :
    Calls Try.prog 16 #[.slice a len cap, .slice ub n uc, .int .i64 leaf, .agg #[.int .i64 mc, .int .i64 mm]] w fun e w' => e = .returned (.int .i64 E) ∧ Below w.heap.size w w' := by
  have hB0 : Below w.heap.size w ((w.alloc (.cells #[.int .i64 mc, .int .i64 mm] 25)).alloc (.cells #[.int .i64 0] 29)) := ((Below.refl _ w).alloc (Nat.le_refl _) _).alloc (by simp) _
  have HR := hid (read_any a len cap l ((w.alloc (.cells #[.int .i64 mc, .int .i64 mm] 25)).alloc (.cells #[.int .i64 0] 29)) (h.below hB0) hok)
  have HU := hid (hu.below hB0)
  have HQ := hid hq
  have HL := hid h.1
  have LI := hid hlf
  have HB0 := hid hB0
  have k0 : ((w.alloc (.cells #[.int .i64 mc, .int .i64 mm] 25)).alloc (.cells #[.int .i64 0] 29)).cell? ⟨w.heap.size, 0, none⟩ = some (.int .i64 mc) := by simp [go_sem]
  have k1 : ((w.alloc (.cells #[.int .i64 mc, .int .i64 mm] 25)).alloc (.cells #[.int .i64 0] 29)).cell? ⟨w.heap.size, 1, none⟩ = some (.int .i64 mm) := by simp [go_sem]
  have k2 : ((w.alloc (.cells #[.int .i64 mc, .int .i64 mm] 25)).alloc (.cells #[.int .i64 0] 29)).cell? ⟨w.heap.size + 1, 0, none⟩ = some (.int .i64 0) := by simp [go_sem]
  have k3 : ((w.alloc (.cells #[.int .i64 mc, .int .i64 mm] 25)).alloc (.cells #[.int .i64 0] 29)).frozen? ⟨w.heap.size + 1, 0, none⟩ = false := by simp [go_sem]
  have K0 := hid k0
  have K1 := hid k1
  have K2 := hid k2
  have K3 := hid k3
  clear h hok hu hq hlf hB0 k0 k1 k2 k3
  have t : (E != 0) = true := by simpa using hE0
  have HE := hid hE
  have HE0 := hid hE0
  clear hE hE0
  go_enter Try.func16, Try.ntmps16
  go_wp2_with fail
  refine HR.out.mono ?_
  rintro e w1 ⟨h1 | h1, b1⟩
  · exact absurd (HE.out.symm.trans h1.1) HE0.out
  obtain ⟨_, rfl⟩ := h1
  rw [HE.out]
  have B1 := b1.alloc b1.size (.cells #[.slice none 0 0, .map none] 61)
  have k0 := keepc B1 K0.out
  have k1 := keepc B1 K1.out
  have k2 := keepc B1 K2.out
  have k3 := keepf B1 K2.out K3.out
  clear b1 HR
  go_wp2
  refine bodyPost_ret (v := .int .i64 E) (by simp [results, Try.results16, go_sem, k2]) rfl ⟨rfl, ?_⟩
  exact (HB0.out.trans (B1.mono HB0.out.size)).setCell (p := ⟨w.heap.size + 1, 0, none⟩) (by simp) _

set_option maxRecDepth 100000 in
set_option maxHeartbeats 8000000 in
theorem room_sums (a : Option Addr) (len cap : Nat) (l : List Qu) (ub : Option Addr) (n uc : Nat) (us : List Us) (leaf mc mm : Int) (w : World) (h : HoldsQ w a len cap l) (hok : ∀ q ∈ l, q.ok) (hu : HoldsU w ub n uc us) (hq : ∀ u ∈ us, I64 u.qu) (hlf : I64 leaf) (hC : chkE l = 0) (E : Int) (hE : sumsE l us = E) (hE0 : E ≠ 0) :
    Calls Try.prog 16 #[.slice a len cap, .slice ub n uc, .int .i64 leaf, .agg #[.int .i64 mc, .int .i64 mm]] w fun e w' => e = .returned (.int .i64 E) ∧ Below w.heap.size w w' := by
  have hB0 : Below w.heap.size w ((w.alloc (.cells #[.int .i64 mc, .int .i64 mm] 25)).alloc (.cells #[.int .i64 0] 29)) := ((Below.refl _ w).alloc (Nat.le_refl _) _).alloc (by simp) _
  have HR := hid (read_any a len cap l ((w.alloc (.cells #[.int .i64 mc, .int .i64 mm] 25)).alloc (.cells #[.int .i64 0] 29)) (h.below hB0) hok)
  have HU := hid (hu.below hB0)
  have HQ := hid hq
  have HL := hid h.1
  have LI := hid hlf
  have HB0 := hid hB0
  have k0 : ((w.alloc (.cells #[.int .i64 mc, .int .i64 mm] 25)).alloc (.cells #[.int .i64 0] 29)).cell? ⟨w.heap.size, 0, none⟩ = some (.int .i64 mc) := by simp [go_sem]
  have k1 : ((w.alloc (.cells #[.int .i64 mc, .int .i64 mm] 25)).alloc (.cells #[.int .i64 0] 29)).cell? ⟨w.heap.size, 1, none⟩ = some (.int .i64 mm) := by simp [go_sem]
  have k2 : ((w.alloc (.cells #[.int .i64 mc, .int .i64 mm] 25)).alloc (.cells #[.int .i64 0] 29)).cell? ⟨w.heap.size + 1, 0, none⟩ = some (.int .i64 0) := by simp [go_sem]
  have k3 : ((w.alloc (.cells #[.int .i64 mc, .int .i64 mm] 25)).alloc (.cells #[.int .i64 0] 29)).frozen? ⟨w.heap.size + 1, 0, none⟩ = false := by simp [go_sem]
  have K0 := hid k0
  have K1 := hid k1
  have K2 := hid k2
  have K3 := hid k3
  clear h hok hu hq hlf hB0 k0 k1 k2 k3
  have HC := hid hC
  have t : (E != 0) = true := by simpa using hE0
  have HE := hid hE
  clear hC hE hE0
  go_enter Try.func16, Try.ntmps16
  go_wp2_with fail
  refine HR.out.mono ?_
  rintro e w1 ⟨h1 | h1, b1⟩
  rotate_left
  · exact absurd HC.out h1.1
  obtain ⟨_, lb, off, mb, rfl, rfl, hT⟩ := h1
  have B1 := hid (b1.alloc b1.size (.cells #[.slice (some ⟨lb, off, none⟩) len cap, .map (some mb)] 61))
  have hBA : Below w1.heap.size w1 (w1.alloc (.cells #[.slice (some ⟨lb, off, none⟩) len cap, .map (some mb)] 61)) := (Below.refl _ w1).alloc (Nat.le_refl _) _
  have T1 := hid (hT.below hBA)
  have SM := hid (sums_any lb off len cap mb l ub n uc us (w1.alloc (.cells #[.slice (some ⟨lb, off, none⟩) len cap, .map (some mb)] 61)) T1.out (HU.out.below B1.out) HQ.out HC.out)
  have t0 : (w1.alloc (.cells #[.slice (some ⟨lb, off, none⟩) len cap, .map (some mb)] 61)).cell? ⟨w1.heap.size, 0, none⟩ = some (.slice (some ⟨lb, off, none⟩) len cap) := by simp [go_sem]
  have t1 : (w1.alloc (.cells #[.slice (some ⟨lb, off, none⟩) len cap, .map (some mb)] 61)).cell? ⟨w1.heap.size, 1, none⟩ = some (.map (some mb)) := by simp [go_sem]
  have T0 := hid t0
  have T1c := hid t1
  have SZ1 := hid b1.size
  clear hT hBA b1 HR t0 t1
  go_wp2_with fail
  refine SM.out.mono ?_
  rintro e w2 ⟨v, rfl, o2, b2⟩
  obtain ⟨a2, c2, rfl, h2⟩ := o2.holds
  rw [HE.out]
  have B2 := B1.out.trans (b2.mono B1.out.size)
  generalize (sumsR l us).length = LL at *
  have B3 := B2.alloc B2.size (.cells #[.slice a2 LL c2] 28)
  have k0 := keepc B3 K0.out
  have k1 := keepc B3 K1.out
  have k2 := keepc B3 K2.out
  have k3 := keepf B3 K2.out K3.out
  clear b2 SM o2 h2
  go_wp2
  refine bodyPost_ret (v := .int .i64 E) (by simp [results, Try.results16, go_sem, k2]) rfl ⟨rfl, ?_⟩
  exact (HB0.out.trans (B3.mono HB0.out.size)).setCell (p := ⟨w.heap.size + 1, 0, none⟩) (by simp) _

set_option maxRecDepth 100000 in
set_option maxHeartbeats 8000000 in
theorem room_use (a : Option Addr) (len cap : Nat) (l : List Qu) (ub : Option Addr) (n uc : Nat) (us : List Us) (leaf mc mm : Int) (w : World) (h : HoldsQ w a len cap l) (hok : ∀ q ∈ l, q.ok) (hu : HoldsU w ub n uc us) (hq : ∀ u ∈ us, I64 u.qu) (hlf : I64 leaf) (hS : sumsE l us = 0) (E : Int) (hE : useE l ⟨leaf, mc, mm⟩ = E) (hE0 : E ≠ 0) :
    Calls Try.prog 16 #[.slice a len cap, .slice ub n uc, .int .i64 leaf, .agg #[.int .i64 mc, .int .i64 mm]] w fun e w' => e = .returned (.int .i64 E) ∧ Below w.heap.size w w' := by
  have hB0 : Below w.heap.size w ((w.alloc (.cells #[.int .i64 mc, .int .i64 mm] 25)).alloc (.cells #[.int .i64 0] 29)) := ((Below.refl _ w).alloc (Nat.le_refl _) _).alloc (by simp) _
  have HR := hid (read_any a len cap l ((w.alloc (.cells #[.int .i64 mc, .int .i64 mm] 25)).alloc (.cells #[.int .i64 0] 29)) (h.below hB0) hok)
  have HU := hid (hu.below hB0)
  have HQ := hid hq
  have HL := hid h.1
  have LI := hid hlf
  have HB0 := hid hB0
  have k0 : ((w.alloc (.cells #[.int .i64 mc, .int .i64 mm] 25)).alloc (.cells #[.int .i64 0] 29)).cell? ⟨w.heap.size, 0, none⟩ = some (.int .i64 mc) := by simp [go_sem]
  have k1 : ((w.alloc (.cells #[.int .i64 mc, .int .i64 mm] 25)).alloc (.cells #[.int .i64 0] 29)).cell? ⟨w.heap.size, 1, none⟩ = some (.int .i64 mm) := by simp [go_sem]
  have k2 : ((w.alloc (.cells #[.int .i64 mc, .int .i64 mm] 25)).alloc (.cells #[.int .i64 0] 29)).cell? ⟨w.heap.size + 1, 0, none⟩ = some (.int .i64 0) := by simp [go_sem]
  have k3 : ((w.alloc (.cells #[.int .i64 mc, .int .i64 mm] 25)).alloc (.cells #[.int .i64 0] 29)).frozen? ⟨w.heap.size + 1, 0, none⟩ = false := by simp [go_sem]
  have K0 := hid k0
  have K1 := hid k1
  have K2 := hid k2
  have K3 := hid k3
  clear h hok hu hq hlf hB0 k0 k1 k2 k3
  have ER : Hid (sumsR l us = vecsTo l us l.length) := by unfold Hid sumsR; rw [if_pos hS]
  have HC := hid (sumsE_zero hS).1
  have SE := hid hS
  have t : (E != 0) = true := by simpa using hE0
  have HE := hid hE
  clear hS hE hE0
  go_enter Try.func16, Try.ntmps16
  go_wp2_with fail
  refine HR.out.mono ?_
  rintro e w1 ⟨h1 | h1, b1⟩
  rotate_left
  · exact absurd HC.out h1.1
  obtain ⟨_, lb, off, mb, rfl, rfl, hT⟩ := h1
  have B1 := hid (b1.alloc b1.size (.cells #[.slice (some ⟨lb, off, none⟩) len cap, .map (some mb)] 61))
  have hBA : Below w1.heap.size w1 (w1.alloc (.cells #[.slice (some ⟨lb, off, none⟩) len cap, .map (some mb)] 61)) := (Below.refl _ w1).alloc (Nat.le_refl _) _
  have T1 := hid (hT.below hBA)
  have SM := hid (sums_any lb off len cap mb l ub n uc us (w1.alloc (.cells #[.slice (some ⟨lb, off, none⟩) len cap, .map (some mb)] 61)) T1.out (HU.out.below B1.out) HQ.out HC.out)
  have t0 : (w1.alloc (.cells #[.slice (some ⟨lb, off, none⟩) len cap, .map (some mb)] 61)).cell? ⟨w1.heap.size, 0, none⟩ = some (.slice (some ⟨lb, off, none⟩) len cap) := by simp [go_sem]
  have t1 : (w1.alloc (.cells #[.slice (some ⟨lb, off, none⟩) len cap, .map (some mb)] 61)).cell? ⟨w1.heap.size, 1, none⟩ = some (.map (some mb)) := by simp [go_sem]
  have T0 := hid t0
  have T1c := hid t1
  have SZ1 := hid b1.size
  clear hT hBA b1 HR t0 t1
  go_wp2_with fail
  refine SM.out.mono ?_
  rintro e w2 ⟨v, rfl, o2, b2⟩
  obtain ⟨a2, c2, rfl, h2⟩ := o2.holds
  rw [ER.out, vecsTo_len, HL.out] at h2
  have LN : (sumsR l us).length = len := by rw [ER.out, vecsTo_len, HL.out]
  rw [SE.out, LN]
  clear LN
  have B2 := hid (B1.out.trans (b2.mono B1.out.size))
  have B3 := hid (B2.out.alloc B2.out.size (.cells #[.slice a2 len c2] 28))
  have bb : Below (w1.alloc (.cells #[.slice (some ⟨lb, off, none⟩) len cap, .map (some mb)] 61)).heap.size (w1.alloc (.cells #[.slice (some ⟨lb, off, none⟩) len cap, .map (some mb)] 61)) (w2.alloc (.cells #[.slice a2 len c2] 28)) := b2.alloc b2.size _
  have t0 := keepc bb T0.out
  have t1 := keepc bb T1c.out
  have TT := hid (T1.out.below bb)
  have s0 : (w2.alloc (.cells #[.slice a2 len c2] 28)).cell? ⟨w2.heap.size, 0, none⟩ = some (.slice a2 len c2) := by simp [go_sem]
  have S0 := hid s0
  have V2 := hid (h2.below ((Below.refl _ w2).alloc (Nat.le_refl _) (.cells #[.slice a2 len c2] 28)))
  have CU := hid (checkUse_any lb off len cap mb l ⟨leaf, mc, mm⟩ (w2.alloc (.cells #[.slice a2 len c2] 28)) TT.out LI.out)
  have k0 := keepc B3.out K0.out
  have k1 := keepc B3.out K1.out
  have k2 := keepc B3.out K2.out
  have k3 := keepf B3.out K2.out K3.out
  have T0' := hid t0
  have T1' := hid t1
  have SZ2 := hid b2.size
  clear b2 SM o2 h2 bb s0 T0 T1c
  rw [HE.out] at CU
  go_wp2_with fail
  refine CU.out.mono ?_
  rintro e w3 ⟨rfl, b3⟩
  have B4 := B3.out.trans (b3.mono B3.out.size)
  clear t0 t1 k0 k1 k2 k3
  have k0 := keepc B4 K0.out
  have k1 := keepc B4 K1.out
  have k2 := keepc B4 K2.out
  have k3 := keepf B4 K2.out K3.out
  clear b3 CU
  go_wp2
  refine bodyPost_ret (v := .int .i64 E) (by simp [results, Try.results16, go_sem, k2]) rfl ⟨rfl, ?_⟩
  exact (HB0.out.trans (B4.mono HB0.out.size)).setCell (p := ⟨w.heap.size + 1, 0, none⟩) (by simp) _


end Go.Proofs.Ytdomimpcjkajiaa
