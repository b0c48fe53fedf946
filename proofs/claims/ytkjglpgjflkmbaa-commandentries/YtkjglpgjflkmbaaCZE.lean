/-
  Contracts of law 10: the first calls.
-/
import Derived.Test.YtkjglpgjflkmbaaCZA
namespace Go.Proofs.Ytkjglpgjflkmbaa
open Go.RowKit Go.Deep Go.Maps
set_option linter.unusedVariables false
set_option linter.unusedSimpArgs false

/-- The bytes of the first entry. -/
def awk : List Int := [2, 4, 6, 2, 14, 0, 0, 0, 0, 0, 0, 0, 0, 0, 0, 0, 0, 0, 0, 0, 0, 0, 0, 0, 0, 0, 0]
set_option maxRecDepth 100000 in
theorem awk_enc : entZ 1 2 3 (cmdZ 2 7 0 0 0 (bytesZ [0, 0, 0, 0, 0, 0, 0]) (bytesZ [0, 0, 0, 0, 0]) (taskZ 0 0 0 0 0 [] 0)) = awk := by kernel_rfl
set_option maxRecDepth 100000 in
theorem awk_end : (enE awk 0 0).2 = (27, 0) := by kernel_rfl
set_option maxRecDepth 100000 in
theorem awk_id : (enN awk 0 0 0).1 = 7 := by kernel_rfl
theorem holdsN_nil (w : World) : HoldsN w none 0 0 [] := ⟨rfl, by omega, by omega, fun _ => ⟨rfl, rfl⟩, fun h => absurd h (by omega)⟩
theorem Blk.at {W : World} {Q t : Nat} {cs : Array Value} (h : Blk W Q t cs) (i : Nat) (v : Value) (e : cs[i]? = some v) : W.cell? ⟨Q, i, none⟩ = some v := by
  have h' : W.heap[Q]? = some (.cells cs t (0, 0)) := h
  simp [World.cell?, h', e]
set_option maxRecDepth 100000 in
set_option maxHeartbeats 8000000 in
theorem awake10_any (w : World) : Calls Try.prog 10 #[] w fun e w' => e = .returned (.bool true) ∧ Below w.heap.size w w' := by
  have HE := hid (fun W => encentry_any 1 2 3 2 7 0 0 0 0 0 0 0 0 0 0 0 0 0 0 0 0 0 0 0 0 none 0 0 [] 0 W ⟨by decide, by decide⟩ ⟨by decide, by decide⟩ ⟨by decide, by decide⟩ ⟨by decide, by decide⟩ ⟨by decide, by decide⟩ ⟨by decide, by decide⟩ ⟨by decide, by decide⟩ ⟨by decide, by decide⟩ ⟨by decide, by decide⟩ ⟨by decide, by decide⟩ ⟨by decide, by decide⟩ ⟨by decide, by decide⟩ ⟨by decide, by decide⟩ ⟨by decide, by decide⟩ ⟨by decide, by decide⟩ ⟨by decide, by decide⟩ ⟨by decide, by decide⟩ ⟨by decide, by decide⟩ ⟨by decide, by decide⟩ ⟨by decide, by decide⟩ ⟨by decide, by decide⟩ ⟨by decide, by decide⟩ ⟨by decide, by decide⟩ ⟨by decide, by decide⟩ ⟨by decide, by decide⟩ ⟨by decide, by decide⟩ (holdsN_nil W) (by intro x hx; cases hx))
  rw [show encE 0 2 = 0 from rfl, awk_enc] at HE
  go_enter Try.func10, Try.ntmps10
  have C1 := hid (HE.out w)
  clear HE
  go_wp2_with (first | refine wpList_built rfl 32 _ rfl #[.int .i64 2, .int .i64 7, .int .i64 0, .int .i64 0, .int .i64 0, .int .i64 0, .int .i64 0, .int .i64 0, .int .i64 0, .int .i64 0, .int .i64 0, .int .i64 0, .int .i64 0, .int .i64 0, .int .i64 0, .int .i64 0, .int .i64 0, .int .i64 0, .int .i64 0, .int .i64 0, .int .i64 0, .int .i64 0, .slice none 0 0, .int .i64 0] (by kernel_rfl) ?_ | refine wpList_built rfl 34 _ rfl #[.int .i64 1, .int .i64 2, .int .i64 3, .int .i64 2, .int .i64 7, .int .i64 0, .int .i64 0, .int .i64 0, .int .i64 0, .int .i64 0, .int .i64 0, .int .i64 0, .int .i64 0, .int .i64 0, .int .i64 0, .int .i64 0, .int .i64 0, .int .i64 0, .int .i64 0, .int .i64 0, .int .i64 0, .int .i64 0, .int .i64 0, .int .i64 0, .int .i64 0, .slice none 0 0, .int .i64 0] (by kernel_rfl) ?_)
  with_reducible refine C1.out.mono ?_
  rintro e W1 ⟨v, rfl, h1, _, b1⟩
  have O1 := h1 (by trivial)
  obtain ⟨a, c, rfl⟩ := O1.form
  have HB := hid O1.holds
  have B1 := hid b1
  clear C1 h1 b1 O1
  have hN : awk.length = 27 := rfl
  rw [hN] at HB
  rw [hN]
  have C2 := hid (decentry_any a 27 c awk W1 HB.out)
  rw [awk_end, show endT 27 ((27, 0) : Int × Int).1 ((27, 0) : Int × Int).2 = (0, 0) from rfl] at C2
  go_wp2_with fail
  with_reducible refine C2.out.mono ?_
  rintro e W2 ⟨cs, rfl, _, hcs, hcz, hon, b2⟩
  obtain ⟨va, hcv, _⟩ := hcs (by trivial)
  have h4 : cs[4]? = some (.int .i64 7) := by rw [hcv]; show some (Value.int .i64 (enN awk 0 0 0).1) = _; rw [awk_id]
  have H4 := hid h4
  have hsz : (Try.prog.info? 34).map (·.size) = some cs.size := by rw [hcz]; exact sizeEnt
  clear C2 hcs hcv h4
  go_upto_region 3 with (refine wpList_store_row rfl 34 (.tmp 3) (.tmp 15) rfl W2.heap.size cs rfl rfl 34 _ (heap_alloc_new W2 _) hsz (by rw [hcz]; rfl) hon ?_)
  rw [alloc_row]
  have b3 := (Below.refl W2.heap.size W2).alloc (Nat.le_refl _) (.cells cs 34)
  have B3 := hid (B1.out.trans ((b2.mono B1.out.size).trans (b3.mono (Nat.le_trans B1.out.size b2.size))))
  have HB3 := hid ((HB.out.below b2).below b3)
  have c4 := (Blk.alloc W2 cs (34)).at 4 _ H4.out
  clear HB B1 b2 b3 hsz hon hcz
  generalize W2.alloc (.cells cs 34) = W3 at *
  generalize W2.heap.size = QX at *
  obtain ⟨_, _, hc1, hc2, _, _, hx⟩ := HB3.out
  obtain ⟨b, o, rfl, hcell⟩ := hx (by omega)
  have x0 : W3.cell? ⟨b, o, none⟩ = some (.int .u8 2) := hcell 0 (by omega)
  have x1 : W3.cell? ⟨b, o + 1, none⟩ = some (.int .u8 4) := hcell 1 (by omega)
  have x2 : W3.cell? ⟨b, o + 2, none⟩ = some (.int .u8 6) := hcell 2 (by omega)
  have x3 : W3.cell? ⟨b, o + 3, none⟩ = some (.int .u8 2) := hcell 3 (by omega)
  have x4 : W3.cell? ⟨b, o + 4, none⟩ = some (.int .u8 14) := hcell 4 (by omega)
  clear hcell hx HB3 H4
  go_wp2_with fail
  go_ret
  exact ⟨rfl, B3.out⟩
end Go.Proofs.Ytkjglpgjflkmbaa
