/- StripReads: for all bytes and all places the law's call returns true: Read, ReadInt and ReadBytes answer as the document asks. No further conditions. -/
import Derived.Test.YtmdhcigkhapolabSP
import Derived.Test.YtmdhcigkhapolabOpenS
namespace Go.Proofs.Ytmdhcigkhapolab.stripReads
open Go.ChangeShapes Go.WideShapes Go.ChangeAt Go.RowKit
set_option linter.unusedVariables false

set_option maxRecDepth 100000 in
set_option maxHeartbeats 4000000 in
theorem main (a : Option Addr) (len cap : Nat) (l : List Int) (p X Y Z ZX P E : Int) (L : List Int) (w : World) (HB : Hid (HoldsB w a len cap l))
    (RD : Hid (∀ w, HoldsB w a len cap l → Calls Try.prog 21 #[.slice a len cap, .int .i64 p] w fun e w' => e = .returned (.tuple #[.int .u64 X, .int .i64 Y, .int .i64 Z]) ∧ w = w'))
    (GN : Hid (∀ w, HoldsB w a len cap l → Calls Try.prog 22 #[.slice a len cap, .int .i64 p] w fun e w' => e = .returned (.tuple #[.int .u64 X, .int .i64 Y, .int .i64 Z]) ∧ w = w'))
    (RI : Hid (∀ w, HoldsB w a len cap l → Calls Try.prog 23 #[.slice a len cap, .int .i64 p] w fun e w' => e = .returned (.tuple #[.int .i64 ZX, .int .i64 Y, .int .i64 Z]) ∧ w = w'))
    (GW : Hid (∀ w, HoldsB w a len cap l → Calls Try.prog 24 #[.slice a len cap, .int .i64 p] w fun e w' => e = .returned (.tuple #[.int .i64 ZX, .int .i64 Y, .int .i64 Z]) ∧ w = w'))
    (RB : Hid (∀ w, HoldsB w a len cap l → Calls Try.prog 25 #[.slice a len cap, .int .i64 p] w fun e w' => ∃ v, e = .returned (.tuple #[v, .int .i64 P, .int .i64 E]) ∧ Own w.heap.size w' v L.length L ∧ Below w.heap.size w w'))
    (GT : Hid (∀ w, HoldsB w a len cap l → Calls Try.prog 26 #[.slice a len cap, .int .i64 p] w fun e w' => ∃ v, e = .returned (.tuple #[v, .int .i64 P, .int .i64 E]) ∧ Own w.heap.size w' v L.length L ∧ Below w.heap.size w w')) :
    Calls Try.prog 4 #[.slice a len cap, .int .i64 p] w fun e w' => e = .returned (.bool true) ∧ Below w.heap.size w w' := by
  go_enter Try.func4, Try.ntmps4
  go_wp2_with fail
  with_reducible refine (awake3_any _).mono ?_
  rintro e x1 ⟨rfl, q1⟩
  have HB' := hid (HB.out.below q1)
  clear HB; have HB := HB'; clear HB'
  go_wp2_with fail
  with_reducible refine (RD.out _ HB.out).mono ?_
  rintro e x2 ⟨rfl, rfl⟩
  go_wp2_with fail
  with_reducible refine (GN.out _ HB.out).mono ?_
  rintro e x3 ⟨rfl, rfl⟩
  go_wp2_with fail
  with_reducible refine (RI.out _ HB.out).mono ?_
  rintro e x4 ⟨rfl, rfl⟩
  go_wp2_with fail
  with_reducible refine (GW.out _ HB.out).mono ?_
  rintro e x5 ⟨rfl, rfl⟩
  go_wp2_with fail
  with_reducible refine (RB.out _ HB.out).mono ?_
  rintro e x6 ⟨v6, rfl, h6, b6⟩
  obtain ⟨a6, c6, rfl⟩ := h6.form
  have q6 := q1.trans (b6.mono q1.size)
  have HB' := hid (HB.out.below b6)
  clear HB; have HB := HB'; clear HB'
  clear q1
  have H1 := hid h6.holds
  clear h6 b6
  go_wp2_with fail
  with_reducible refine (GT.out _ HB.out).mono ?_
  rintro e x7 ⟨v7, rfl, h7, b7⟩
  obtain ⟨a7, c7, rfl⟩ := h7.form
  have q7 := q6.trans (b7.mono q6.size)
  have HB' := hid (HB.out.below b7)
  clear HB; have HB := HB'; clear HB'
  have H1' := hid (H1.out.below b7)
  clear H1; have H1 := H1'; clear H1'
  clear q6
  have H2 := hid h7.holds
  clear h7 b7
  go_wp2_with fail
  with_reducible refine (bytes_same _ _ _ _ _ _ _ _ H1.out H2.out).mono ?_
  rintro e x8 ⟨rfl, rfl⟩
  go_wp2
  go_ret
  exact ⟨rfl, q7⟩

theorem walk (a : Option Addr) (len cap : Nat) (z : List Int) (p : Int) (w : World) (h : IsRow .u8 w a len cap z) (s : cap * 1 ≤ 140737488351232) (hp : I64 p) :
    Calls Try.prog 4 #[.slice a len cap, .int .i64 p] w fun e w' => e = .returned (.bool true) ∧ Below w.heap.size w w' := by
  have H := holdsB_row h
  have hl : len ≤ 140737488355328 := by have := H.2.2.1; omega
  exact main a len cap _ p _ _ _ _ _ _ _ w H (fun w h => read_any a len cap _ p w h hp) (fun w h => getnum_any a len cap _ p w h hp) (fun w h => readint_any a len cap _ p w h hp) (fun w h => getwhole_any a len cap _ p w h hp) (fun w h => readbytes_any a len cap _ p w h hp hl) (fun w h => gettext_any a len cap _ p w h hp hl)

theorem own : ownKnob Try.prog.godebug = none := by kernel_rfl
theorem laidOut : laidOutB Try.prog = true := by kernel_rfl

set_option maxRecDepth 100000 in
theorem lifted (os : Os) (started : os.Started) (H : Type) (enc : TypeId × Value → H) :
    ReturnsInHanded {} Try.checked os 4 .any (Rows.stripReadsSpec.pre6 enc Try.prog Try.f4 Rows.stripReadsRow.domain false) (Rows.stripReadsSpec.post enc Try.prog Try.f4 false true false false) := by
  refine returnsInHanded_of_change_sized (C := Try.checked) own started (by kernel_rfl) Try.func4
    (ChangeSpec.witness6 (enc := enc) (C := Try.checked) false ⟨#[], #[.slice none 0 0, .int .i64 0], []⟩ 8 (by kernel_rfl) (by kernel_rfl) (by kernel_rfl) (by kernel_rfl)) ?_
  intro W base args ds gs before hval0 hW hcnd hsz0 _
  have hsz : (DataW.weightsEach Try.prog (Try.f4.params.toList ++ Rows.stripReadsSpec.plain.varTypes Try.prog) (ds ++ gs)).all (· ≤ reachBytes) = true := hsz0
  have hval : ∀ (j : Nat) t v, Try.f4.params[j]? = some t → args[j]? = some v → Value.okWide Try.prog W .any base t v := hval0
  have hW' := hW
  obtain ⟨p, q, hA0, hV, rfl, hfz, hnd⟩ := hW
  have hA : DataW.TrodAll enc Try.prog W 0 (fun _ => true) true Try.f4.params.toList args.toList ds p := hA0
  rw [Try.params4] at hA hval hsz
  obtain ⟨v0, vs0, d0, ds0, p0, q0, hargs, rfl, rfl, h0, r0⟩ := trodAll_cons hA
  obtain ⟨v1, vs1, d1, ds1, p1, q1, rfl, rfl, rfl, h1, r1⟩ := trodAll_cons r0
  obtain ⟨rfl, rfl, rfl⟩ := trodAll_nil r1
  obtain rfl : args = #[v0, v1] := by cases args; simp_all
  obtain ⟨rfl, rfl⟩ := trodVars_none hV
  have lt0 : ∀ x ∈ p0, x.block < W.heap.size := by obtain ⟨m, hm⟩ := h0; exact DataW.trod_lt m _ _ _ hm
  have lt1 : ∀ x ∈ p1, x.block < W.heap.size := by obtain ⟨m, hm⟩ := h1; exact DataW.trod_lt m _ _ _ hm
  obtain ⟨a0, len0, cap0, rfl⟩ := okWide_slice Try.underlying22 (hval 0 22 v0 rfl rfl)
  obtain ⟨z0, w0, dr0⟩ := val_row2 Try.underlying22 Try.underlying5 (by kernel_rfl) h0
  have s0 : cap0 * 1 ≤ 140737488351232 := sized_cap dr0 hsz (j := 0) rfl rfl Try.underlying22 (by kernel_rfl)
  obtain ⟨a1, rfl, w1⟩ := val_i64 Try.underlying3 (hval 1 3 v1 rfl rfl) h1
  clear hA0 hval0
  refine (walk a0 len0 cap0 z0 a1 W w0 s0 w1).mono fun e W' ⟨he, bel⟩ => ?_
  subst he
  exact ⟨_, rfl, _, _, _, [], _, [], hW', trodAll_mk1 (shut_bool Try.underlying4 _), (trodAll_cons_mk (Below.trod laidOut (by kernel_rfl) (of_decide_eq_true (by kernel_rfl)) h0 bel lt0) (trodAll_cons_mk (Below.trod laidOut (by kernel_rfl) (of_decide_eq_true (by kernel_rfl)) h1 bel lt1) trodAll_mk0)), rfl, bel.frame _, fun h => by cases h⟩

theorem over : Rows.stripReadsRow.holds Try.pinned (OpenSpec.ofChange Rows.stripReadsSpec) :=
  OpenClaim.holds_of_wide 4 Try.f4 rfl rfl rfl rfl rfl rfl rfl ⟨rfl, rfl, rfl, rfl, rfl⟩ rfl rfl rfl rfl rfl (by kernel_rfl) Try.func4 (by kernel_rfl)
    (of_decide_eq_true (by kernel_rfl)) (by unfold Func.isWrapper; first | (rw [if_pos (by decide +kernel)]; kernel_rfl) | (rw [if_neg (by decide +kernel)]; exact ⟨rfl, rfl⟩))
    (fun os started H enc _ => lifted os started H enc)

theorem proved : Rows.StripReadsSaid := over
#print axioms proved
end Go.Proofs.Ytmdhcigkhapolab.stripReads
