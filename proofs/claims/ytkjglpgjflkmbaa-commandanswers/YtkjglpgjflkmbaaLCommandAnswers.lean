/- CommandAnswers: for every answer the law answers true, and it reads as it did. No further conditions. -/
import Derived.Test.YtkjglpgjflkmbaaMED
import Derived.Test.YtkjglpgjflkmbaaMCZ
namespace Go.Proofs.Ytkjglpgjflkmbaa.commandAnswers
open Go.ChangeShapes Go.WideShapes Go.ChangeAt Go.RowKit Go.Deep Go.Maps
set_option linter.unusedVariables false
set_option linter.unusedSimpArgs false

set_option maxRecDepth 100000 in
set_option maxHeartbeats 8000000 in
theorem walk1 (er at' an : Int) (ca : Option Addr) (cn cc : Nat) (co : List Int) (la : Option Addr) (ln lc : Nat) (ls : List Le) (w : World) (ier : I64 er) (iat : I64 at') (ian : I64 an) (hco : HoldsN w ca cn cc co) (hcx : ∀ x ∈ co, I64 x) (hls : HoldsE 8 Le.cs w la ln lc ls) (hla : LeAll w ls) :
    Calls Try.prog 4 #[.agg #[.int .i64 er, .int .i64 at', .int .i64 an, .slice ca cn cc, .slice la ln lc]] w fun e w' => e = .returned (.bool true) ∧ Below w.heap.size w w' := by
  have al := fun (W : World) (H : Below w.heap.size w W) => (show LeAll W ls from fun x hx => ⟨(hla x hx).1.below H, (hla x hx).2⟩)
  have ENC := hid (fun W (H : Below w.heap.size w W) => encanswer_any er at' an ca cn cc co la ln lc ls W ier iat ian (hco.below H) hcx (hls.below H) (al W H))
  have REF := hid (fun W (H : Below w.heap.size w W) => ranswer_any er at' an ca cn cc co la ln lc ls W ier iat ian (hco.below H) hcx (hls.below H) (al W H))
  clear al ier iat ian hco hcx hls hla
  generalize (bytesZ [er] ++ (bytesZ [at', an] ++ (listZ co ++ listW leZ ls))) = BS at *
  generalize (decide (1024 < cn) || flW leL ls) = FL at *
  generalize hle : lngE FL = EE at *
  clear hle
  go_enter Try.func4, Try.ntmps4
  go_upto_region 1 with fail
  have B0 := hid ((Below.refl w.heap.size w).alloc (Nat.le_refl _) (.cells #[.int .i64 er, .int .i64 at', .int .i64 an, .slice ca cn cc, .slice la ln lc] 46))
  have X1 := hid (Blk.alloc w #[.int .i64 er, .int .i64 at', .int .i64 an, .slice ca cn cc, .slice la ln lc] (46))
  generalize (w.alloc (.cells #[.int .i64 er, .int .i64 at', .int .i64 an, .slice ca cn cc, .slice la ln lc] 46)) = W0 at *
  have AW := hid (awake10_any W0)
  go_wp2_with fail
  with_reducible refine AW.out.mono ?_
  rintro e W1 ⟨rfl, b1⟩
  replace X1 := hid (X1.out.below b1)
  replace B0 := hid (B0.out.trans (b1.mono B0.out.size))
  clear AW b1
  have LD := X1.out.loadAt Try.underlying46 rfl sizeAns
  have C1 := hid (ENC.out W1 B0.out)
  go_wp2_with (refine wpList_load_at 46 rfl (.tmp 1) rfl _ _ rfl _ LD ?_)
  with_reducible refine C1.out.mono ?_
  rintro e W2 ⟨v4, rfl, g4, g4', b2⟩
  replace X1 := hid (X1.out.below b2)
  replace B0 := hid (B0.out.trans (b2.mono B0.out.size))
  have G4 := hid g4
  have G4' := hid g4'
  clear LD C1 b2 g4 g4' ENC
  have LD := X1.out.loadAt Try.underlying46 rfl sizeAns
  have C2 := hid (REF.out W2 B0.out)
  go_wp2_with (refine wpList_load_at 46 rfl (.tmp 1) rfl _ _ rfl _ LD ?_)
  with_reducible refine C2.out.mono ?_
  rintro e W3 ⟨v5, rfl, g5, g5', b3⟩
  replace B0 := hid (B0.out.trans (b3.mono B0.out.size))
  have SAME : Hid (∃ a4 n4 c4 a5 n5 c5 l, v4 = .slice a4 n4 c4 ∧ v5 = .slice a5 n5 c5 ∧ HoldsB W3 a4 n4 c4 l ∧ HoldsB W3 a5 n5 c5 l) := by
    cases FL
    · have o4 := (G4.out rfl).below' b3
      have o5 := g5 rfl
      obtain ⟨a4, c4, rfl⟩ := o4.form
      obtain ⟨a5, c5, rfl⟩ := o5.form
      exact ⟨a4, _, c4, a5, _, c5, BS, rfl, rfl, o4.holds, o5.holds⟩
    · exact ⟨none, 0, 0, none, 0, 0, [], G4'.out rfl, g5' rfl, holdsB_none _, holdsB_none _⟩
  clear LD C2 b3 g5 g5' G4 G4' REF X1
  obtain ⟨a4, n4, c4, a5, n5, c5, l, rfl, rfl, hb4, hb5⟩ := SAME.out
  have C4 := hid (bytes_same _ _ _ _ _ _ _ _ hb4 hb5)
  clear SAME hb4 hb5
  go_wp2_with fail
  with_reducible refine C4.out.mono ?_
  rintro e W6 ⟨rfl, rfl⟩
  clear C4
  go_wp2_with fail
  go_ret
  exact ⟨rfl, B0.out⟩

theorem walk (er at' an : Int) (ca : Option Addr) (cn cc : Nat) (co : List Int) (la : Option Addr) (ln lc : Nat) (ls : List Le) (w : World) (hi : I64 er ∧ I64 at' ∧ I64 an) (hco : HoldsN w ca cn cc co) (hcx : ∀ x ∈ co, I64 x) (hls : HoldsE 8 Le.cs w la ln lc ls) (hla : LeAll w ls) :
    Calls Try.prog 4 #[.agg #[.int .i64 er, .int .i64 at', .int .i64 an, .slice ca cn cc, .slice la ln lc]] w fun e w' => e = .returned (.bool true) ∧ Below w.heap.size w w' :=
  walk1 er at' an ca cn cc co la ln lc ls w hi.1 hi.2.1 hi.2.2 hco hcx hls hla

theorem own : ownKnob Try.prog.godebug = none := by kernel_rfl
theorem laidOut : laidOutB Try.prog = true := by kernel_rfl

set_option maxRecDepth 100000 in
theorem lifted (os : Os) (started : os.Started) (H : Type) (enc : TypeId × Value → H) :
    ReturnsInHanded {} Try.checked os 4 .any (Rows.commandAnswersSpec.pre6 enc Try.prog Try.f4 Rows.commandAnswersRow.domain false) (Rows.commandAnswersSpec.post enc Try.prog Try.f4 false true false false) := by
  refine returnsInHanded_of_change (C := Try.checked) own started (by kernel_rfl) Try.func4
    (ChangeSpec.witness6 (enc := enc) (C := Try.checked) false ⟨#[], #[.agg #[.int .i64 0, .int .i64 0, .int .i64 0, .slice none 0 0, .slice none 0 0]], []⟩ 8 (by kernel_rfl) (by kernel_rfl) (by kernel_rfl) (by kernel_rfl)) ?_
  intro W base args ds gs before hval0 hW hcnd _
  have hval : ∀ (j : Nat) t v, Try.f4.params[j]? = some t → args[j]? = some v → Value.okWide Try.prog W .any base t v := hval0
  have hW' := hW
  obtain ⟨p, q, hA0, hV, rfl, hfz, hnd⟩ := hW
  have hA : DataW.TrodAll enc Try.prog W 0 (fun _ => true) true Try.f4.params.toList args.toList ds p := hA0
  rw [Try.params4] at hA hval
  obtain ⟨v0, vs0, d0, ds0, p0, q0, hargs, rfl, rfl, h0, r0⟩ := trodAll_cons hA
  obtain ⟨rfl, rfl, rfl⟩ := trodAll_nil r0
  obtain rfl : args = #[v0] := by cases args; simp_all
  obtain ⟨rfl, rfl⟩ := trodVars_none hV
  have lt0 : ∀ x ∈ p0, x.block < W.heap.size := by obtain ⟨m, hm⟩ := h0; exact DataW.trod_lt m _ _ _ hm
  obtain ⟨er0, at0, an0, ca0, cn0, cc0, co0, la0, ln0, lc0, ls0, rfl, w0, c0, x0, l0, k0⟩ := val_answer (hval 0 46 v0 rfl rfl) h0
  clear hA0 hval0
  refine (walk er0 at0 an0 ca0 cn0 cc0 co0 la0 ln0 lc0 ls0 W w0 c0 x0 l0 k0).mono fun e W' ⟨he, bel⟩ => ?_
  subst he
  exact ⟨_, rfl, _, _, _, [], _, [], hW', trodAll_mk1 (shut_bool Try.underlying4 _), (trodAll_cons_mk (Below.trod laidOut (by kernel_rfl) (of_decide_eq_true (by kernel_rfl)) h0 bel lt0) trodAll_mk0), rfl, bel.frame _, fun h => by cases h⟩

theorem over : Rows.commandAnswersRow.holds Try.pinned (OpenSpec.ofChange Rows.commandAnswersSpec) :=
  OpenClaim.holds_of_wide 4 Try.f4 rfl rfl rfl rfl rfl rfl rfl ⟨rfl, rfl, rfl, rfl, rfl⟩ rfl rfl rfl rfl rfl (by kernel_rfl) Try.func4 (by kernel_rfl)
    (of_decide_eq_true (by kernel_rfl)) (by unfold Func.isWrapper; first | (rw [if_pos (by decide +kernel)]; kernel_rfl) | (rw [if_neg (by decide +kernel)]; exact ⟨rfl, rfl⟩))
    (fun os started H enc _ => lifted os started H enc)

theorem proved : Rows.CommandAnswersSaid := over
end Go.Proofs.Ytkjglpgjflkmbaa.commandAnswers
