/-
  The document's answer for queues: Sum, Room.
-/
import Derived.Test.YtdbkjcnanffibaaGreatRN
import Derived.Test.YtdbkjcnanffibaaGreatVD
namespace Go.Proofs.YtdbkjcnanffibaaGreat
open Go.RowKit Go.Deep Go.Maps Go.Shelf
set_option linter.unusedVariables false

def va (vs : List (Int × Int)) (i : Nat) : Int × Int := vs[i]?.getD (0, 0)
theorem va_get {vs : List (Int × Int)} {i : Nat} (h : i < vs.length) : vs[i]? = some (va vs i) := by unfold va; rw [List.getElem?_eq_getElem h]; rfl
theorem HoldsE.rowV {w : World} {a : Option Addr} {len cap : Nat} {l : List (Int × Int)} (h : HoldsV w a len cap l) (hp : 0 < len) : ∃ b off, a = some ⟨b, off, none⟩ ∧ ∀ j, j < len → w.cell? ⟨b, off + j * 2, none⟩ = some (.int .i64 (va l j).1) ∧ w.cell? ⟨b, off + j * 2 + 1, none⟩ = some (.int .i64 (va l j).2) := by
  obtain ⟨h1, h2, h3, h4, h5⟩ := h
  obtain ⟨b, off, e, hlt, hc⟩ := h5 hp
  refine ⟨b, off, e, fun j hj => ?_⟩
  have hh := hc j _ (va_get (by omega))
  exact ⟨hh 0 _ rfl, hh 1 _ rfl⟩

set_option maxHeartbeats 1000000 in
theorem rsum_any (a : Option Addr) (len cap : Nat) (l : List Qu) (sa : Option Addr) (sc : Nat) (vs : List (Int × Int)) (id : Int) (w : World) (h : HoldsQ w a len cap l) (hv : HoldsV w sa len sc vs) (hp : pl l id < len) :
    Calls Tryz.prog 19 #[.slice a len cap, .slice sa len sc, .int .i64 id] w fun e w' => e = .returned (.agg #[.int .i64 (va vs (pl l id)).1, .int .i64 (va vs (pl l id)).2]) ∧ Below w.heap.size w w' := by
  have H := hid (place_any a len cap l id (w.alloc (.cells #[.int .i64 0, .int .i64 0] 33)) (h.below (by repeat (first | exact Below.refl _ _ | assumption | refine Below.alloc ?_ (by simp <;> omega) _ | refine Below.setCell ?_ (by simp <;> omega) _ | refine Below.drew ?_ | refine below_drewN ?_ _))))
  have E : Hid (plI l id = (pl l id : Int)) := by unfold Hid plI; rw [if_pos (by rw [h.1]; exact hp)]
  obtain ⟨b, off, rfl, R⟩ := hv.rowV (by omega)
  obtain ⟨c0, c1⟩ := R (pl l id) hp
  have hcap := hv.2.1
  have hcm := hv.2.2.1
  clear R h hv
  generalize plI l id = pI at *
  generalize pl l id = p at *
  generalize va vs p = x at *
  obtain ⟨x1, x2⟩ := x
  simp only at *
  have C0 := hid c0
  have C1 := hid c1
  clear c0 c1
  go_enter Tryz.func19, Tryz.ntmps19
  go_wp2_with fail
  refine H.out.mono ?_
  rintro e w1 ⟨rfl, b1⟩
  rw [E.out]
  have hB1 : Below w.heap.size w w1 := Below.trans (by repeat (first | exact Below.refl _ _ | assumption | refine Below.alloc ?_ (by first | omega | (simp <;> omega)) _ | refine Below.setCell ?_ (by first | omega | (simp <;> omega)) _ | refine Below.drew ?_ | refine below_drewN ?_ _)) (b1.mono (by simp))
  have d0 := keepc hB1 C0.out
  have d1 := keepc hB1 C1.out
  have f0 := keepf b1 (a := ⟨w.heap.size, 0, none⟩) (v := .int .i64 0) (by simp [go_sem]) (by simp [go_sem])
  have r0 := keepc b1 (a := ⟨w.heap.size, 0, none⟩) (v := .int .i64 0) (by simp [go_sem])
  have f1 := keepf b1 (a := ⟨w.heap.size, 1, none⟩) (v := .int .i64 0) (by simp [go_sem]) (by simp [go_sem])
  have r1 := keepc b1 (a := ⟨w.heap.size, 1, none⟩) (v := .int .i64 0) (by simp [go_sem])
  have hs1 := cell_lt r0
  have hbw := cell_lt C0.out
  simp only at hs1 hbw
  have pb : (p : Int) < (len : Int) := by omega
  have pa : (0 : Int) ≤ (p : Int) := by omega
  clear b1
  go_wp2
  refine bodyPost_ret (v := .agg #[.int .i64 x1, .int .i64 x2]) (by simp [results, Tryz.results19, go_sem, r0, r1]) rfl ⟨rfl, ?_⟩
  exact (hB1.setCell (p := ⟨w.heap.size, 0, none⟩) (Nat.le_refl _) _).setCell (p := ⟨w.heap.size, 1, none⟩) (Nat.le_refl _) _

/-- Is there room at a place? -/
def fitAt (l : List Qu) (us : List Us) (mc mm : Int) (i : Nat) : Bool := fitB ((vecAt l us i).1 + mc) ((vecAt l us i).2 + mm) (qa l i).qc (qa l i).qm
/-- What Room answers. -/
def roomE (l : List Qu) (us : List Us) (leaf mc mm : Int) : Int := if sumsE l us ≠ 0 then sumsE l us else if useE l ⟨leaf, mc, mm⟩ ≠ 0 then useE l ⟨leaf, mc, mm⟩ else if (pth l (pl l leaf)).all (fitAt l us mc mm) = true then 0 else 11

end Go.Proofs.YtdbkjcnanffibaaGreat
