/- PlaceFrees: for every list of nodes, every list of leases and every number the law answers true, and its arguments read as they did. No further conditions. -/
import Derived.Test.YtikalkigmnipiaaPQ
import Derived.Test.YtikalkigmnipiaaPV
namespace Go.Proofs.Ytikalkigmnipiaa.placeFrees
open Go.ChangeShapes Go.WideShapes Go.ChangeAt Go.RowKit Go.Deep Go.Maps Go.Shelf
set_option linter.unusedVariables false
set_option linter.unusedSimpArgs false

set_option maxRecDepth 100000 in
theorem eqv_same (a b : Int) (w : World) : Sem.run Try.prog (binOp BinOp.eql 25 (.agg #[.int .i64 a, .int .i64 b]) (.agg #[.int .i64 a, .int .i64 b])) w = .ok (.bool true) w := by
  have hS2 : Try.prog.underlying 25 = some (.struct (Try.prog.fieldsOf 25)) := by kernel_rfl
  have hp2 : Try.prog.stoodInHeld 25 = false := by kernel_rfl
  have u2 := Try.underlying2
  have a2 := Try.isAgg2
  have z2 := Try.sizeOf2
  rw [run_eql_struct, show (10000 : Nat) = 9999 + 1 from rfl, run_equalIn_agg w 9999 25 _ _ hS2 hp2]
  simp only [Program.fieldsOf, Try.underlying25]
  go_simp
theorem freeL_le (ns : List Nd) (ls : List Lz) (id : Int) : (freeL ns ls id).length ≤ 64 := by
  unfold freeL
  split
  · rename_i h
    unfold freeE at h
    split at h
    · rename_i h0
      split at h
      · rename_i h1
        obtain ⟨_, hn, _⟩ := plE_zero h0
        have hN := ((ndsB_iff.1 hn).1 _ h1).1
        have := freeT_le (rmA ls (da ns (ndI ns id))).tk (da ns (ndI ns id)).co.toNat
        unfold frL
        omega
      · cases h
    · rename_i h0; exact absurd h h0
  · simp

set_option maxRecDepth 100000 in
set_option maxHeartbeats 8000000 in
theorem walk (a : Option Addr) (len cap : Nat) (ns : List Nd) (qa : Option Addr) (ql qc : Nat) (l : List Le) (id : Int) (w : World) (h : HoldsD w a len cap ns) (hok : ∀ q ∈ ns, q.ok) (hl : HoldsL w qa ql qc l) (hlk : ∀ q ∈ l, q.ok) (hi : I64 id) :
    Calls Try.prog 4 #[.slice a len cap, .slice qa ql qc, .int .i64 id] w fun e w' => e = .returned (.bool true) ∧ Below w.heap.size w w' := by
  have FR := hid (fun W (hW : Below w.heap.size w W) => pfree_any a len cap ns qa ql qc l id W (h.below hW) (hl.below hW))
  have RF := hid (fun W (hW : Below w.heap.size w W) => rpfree_any a len cap ns qa ql qc l id W (h.below hW) (hl.below hW))
  have TO := hid (fun W (hW : Below w.heap.size w W) => ptotal_any a len cap ns W (h.below hW))
  have RT := hid (fun W (hW : Below w.heap.size w W) => rptotal_any a len cap ns W (h.below hW))
  have LE := freeL_le ns (l.map Le.z) id
  have EQ := fun w => eqv_same (totV ns).1 (totV ns).2 w
  clear h hl hok hlk hi
  generalize l.map Le.z = ls at *
  generalize freeL ns ls id = FL at *
  generalize freeM ns ls id = FM at *
  generalize freeE ns ls id = FE at *
  generalize (totV ns).1 = TC at *
  generalize (totV ns).2 = TM at *
  generalize totE ns = TE at *
  generalize hLN : FL.length = LN at *
  clear hLN
  have e1 : (FM == FM) = true := by simp
  have e2 : (FE == FE) = true := by simp
  have e3 : (TE == TE) = true := by simp
  go_enter Try.func4, Try.ntmps4
  go_wp2_with fail
  refine (awake7_any _).mono ?_
  rintro e w1 ⟨rfl, b1⟩
  have B1 := hid b1
  clear b1
  go_wp2_with fail
  refine (FR.out _ B1.out).mono ?_
  rintro e w2 ⟨v2, rfl, o2, b2⟩
  obtain ⟨aa, rfl, ha⟩ := o2.holds
  have HA := hid ha
  have B2 := hid (B1.out.trans (b2.mono B1.out.size))
  clear b2 o2 ha FR B1
  go_wp2_with fail
  refine (RF.out _ B2.out).mono ?_
  rintro e w3 ⟨bb, bc, rfl, hb, b3⟩
  have HA3 := hid (HA.out.below b3)
  have HB := hid hb
  have B3 := hid (B2.out.trans (b3.mono B2.out.size))
  clear b3 hb RF B2 HA
  go_wp2_with fail
  refine (TO.out _ B3.out).mono ?_
  rintro e w4 ⟨rfl, b4⟩
  have HA4 := hid (HA3.out.below b4)
  have HB4 := hid (HB.out.below b4)
  have B4 := hid (B3.out.trans (b4.mono B3.out.size))
  have V4 : Hid (Below w4.heap.size w4 (w4.alloc (.cells #[.int .i64 TC, .int .i64 TM] 25))) := (Below.refl _ w4).alloc (Nat.le_refl _) _
  have K4 := hid (B4.out.trans (V4.out.mono B4.out.size))
  have p0 : (w4.alloc (.cells #[.int .i64 TC, .int .i64 TM] 25)).cell? ⟨w4.heap.size, 0, none⟩ = some (.int .i64 TC) := by simp [go_sem]
  have p1 : (w4.alloc (.cells #[.int .i64 TC, .int .i64 TM] 25)).cell? ⟨w4.heap.size, 1, none⟩ = some (.int .i64 TM) := by simp [go_sem]
  have PP := hid (And.intro p0 p1)
  clear b4 TO B3 HA3 HB p0 p1
  go_wp2_with fail
  refine (RT.out _ K4.out).mono ?_
  rintro e w5 ⟨rfl, b5⟩
  have V5 : Hid (Below w5.heap.size w5 (w5.alloc (.cells #[.int .i64 TC, .int .i64 TM] 25))) := (Below.refl _ w5).alloc (Nat.le_refl _) _
  have HA5 := hid (((HA4.out.below V4.out).below b5).below V5.out)
  have HB5 := hid (((HB4.out.below V4.out).below b5).below V5.out)
  have p0 := hid (keepc V5.out (keepc b5 PP.out.1))
  have p1 := hid (keepc V5.out (keepc b5 PP.out.2))
  have B5 := hid (K4.out.trans (b5.mono K4.out.size))
  have K5 := hid (B5.out.trans (V5.out.mono B5.out.size))
  have q0 : Hid ((w5.alloc (.cells #[.int .i64 TC, .int .i64 TM] 25)).cell? ⟨w5.heap.size, 0, none⟩ = some (.int .i64 TC)) := by unfold Hid; simp [go_sem]
  have q1 : Hid ((w5.alloc (.cells #[.int .i64 TC, .int .i64 TM] 25)).cell? ⟨w5.heap.size, 1, none⟩ = some (.int .i64 TM)) := by unfold Hid; simp [go_sem]
  have IT := hid (ints_any aa bb LN LN bc FL _ HA5.out HB5.out (by omega))
  clear b5 RT HA4 HB4 HA5 HB5 B4 B5 K4 V4 V5 PP
  go_wp2_with fail
  refine IT.out.mono ?_
  rintro e w6 ⟨rfl, b6⟩
  have r0 := keepc b6 p0.out
  have r1 := keepc b6 p1.out
  have r2 := keepc b6 q0.out
  have r3 := keepc b6 q1.out
  have B6 := hid (K5.out.trans (b6.mono K5.out.size))
  clear b6 p0 p1 q0 q1
  go_wp2
  go_ret
  exact ⟨rfl, B6.out⟩

theorem own : ownKnob Try.prog.godebug = none := by kernel_rfl
theorem laidOut : laidOutB Try.prog = true := by kernel_rfl

set_option maxRecDepth 100000 in
theorem lifted (os : Os) (started : os.Started) (H : Type) (enc : TypeId × Value → H) :
    ReturnsInHanded {} Try.checked os 4 .any (Rows.placeFreesSpec.pre6 enc Try.prog Try.f4 Rows.placeFreesRow.domain false) (Rows.placeFreesSpec.post enc Try.prog Try.f4 false true false false) := by
  refine returnsInHanded_of_change (C := Try.checked) own started (by kernel_rfl) Try.func4
    (ChangeSpec.witness6 (enc := enc) (C := Try.checked) false ⟨#[], #[.slice none 0 0, .slice none 0 0, .int .i64 0], []⟩ 8 (by kernel_rfl) (by kernel_rfl) (by kernel_rfl) (by kernel_rfl)) ?_
  intro W base args ds gs before hval0 hW hcnd _
  have hval : ∀ (j : Nat) t v, Try.f4.params[j]? = some t → args[j]? = some v → Value.okWide Try.prog W .any base t v := hval0
  have hW' := hW
  obtain ⟨p, q, hA0, hV, rfl, hfz, hnd⟩ := hW
  have hA : DataW.TrodAll enc Try.prog W 0 (fun _ => true) true Try.f4.params.toList args.toList ds p := hA0
  rw [Try.params4] at hA hval
  obtain ⟨v0, vs0, d0, ds0, p0, q0, hargs, rfl, rfl, h0, r0⟩ := trodAll_cons hA
  obtain ⟨v1, vs1, d1, ds1, p1, q1, rfl, rfl, rfl, h1, r1⟩ := trodAll_cons r0
  obtain ⟨v2, vs2, d2, ds2, p2, q2, rfl, rfl, rfl, h2, r2⟩ := trodAll_cons r1
  obtain ⟨rfl, rfl, rfl⟩ := trodAll_nil r2
  obtain rfl : args = #[v0, v1, v2] := by cases args; simp_all
  obtain ⟨rfl, rfl⟩ := trodVars_none hV
  have lt0 : ∀ x ∈ p0, x.block < W.heap.size := by obtain ⟨m, hm⟩ := h0; exact DataW.trod_lt m _ _ _ hm
  have lt1 : ∀ x ∈ p1, x.block < W.heap.size := by obtain ⟨m, hm⟩ := h1; exact DataW.trod_lt m _ _ _ hm
  have lt2 : ∀ x ∈ p2, x.block < W.heap.size := by obtain ⟨m, hm⟩ := h2; exact DataW.trod_lt m _ _ _ hm
  obtain ⟨a0, len0, cap0, rfl⟩ := okWide_slice Try.underlying22 (hval 0 22 v0 rfl rfl)
  obtain ⟨z0, w0, k0, dr0⟩ := val_rowE (k := 5) (en := Nd.cs) (ok := Nd.ok) Try.underlying22 (by kernel_rfl) Nd.cs_len (by decide) (fun _ _ _ h => trod_node h) h0
  obtain ⟨a1, len1, cap1, rfl⟩ := okWide_slice Try.underlying23 (hval 1 23 v1 rfl rfl)
  obtain ⟨z1, w1, k1, dr1, nest1⟩ := val_rowL Try.underlying23 h1
  obtain ⟨a2, rfl, w2⟩ := val_i64 Try.underlying3 (hval 2 3 v2 rfl rfl) h2
  clear hA0 hval0
  refine (walk a0 len0 cap0 z0 a1 len1 cap1 z1 a2 W w0 k0 w1 k1 w2).mono fun e W' ⟨he, bel⟩ => ?_
  subst he
  exact ⟨_, rfl, _, _, _, [], _, [], hW', trodAll_mk1 (shut_bool Try.underlying4 _), (trodAll_cons_mk (Below.trod laidOut (by kernel_rfl) (of_decide_eq_true (by kernel_rfl)) h0 bel lt0) (trodAll_cons_mk (Below.trod laidOut (by kernel_rfl) (of_decide_eq_true (by kernel_rfl)) h1 bel lt1) (trodAll_cons_mk (Below.trod laidOut (by kernel_rfl) (of_decide_eq_true (by kernel_rfl)) h2 bel lt2) trodAll_mk0))), rfl, bel.frame _, fun h => by cases h⟩

theorem over : Rows.placeFreesRow.holds Try.pinned (OpenSpec.ofChange Rows.placeFreesSpec) :=
  OpenClaim.holds_of_wide 4 Try.f4 rfl rfl rfl rfl rfl rfl rfl ⟨rfl, rfl, rfl, rfl, rfl⟩ rfl rfl rfl rfl rfl (by kernel_rfl) Try.func4 (by kernel_rfl)
    (of_decide_eq_true (by kernel_rfl)) (by unfold Func.isWrapper; first | (rw [if_pos (by decide +kernel)]; kernel_rfl) | (rw [if_neg (by decide +kernel)]; exact ⟨rfl, rfl⟩))
    (fun os started H enc _ => lifted os started H enc)

theorem proved : Rows.PlaceFreesSaid := over

end Go.Proofs.Ytikalkigmnipiaa.placeFrees
