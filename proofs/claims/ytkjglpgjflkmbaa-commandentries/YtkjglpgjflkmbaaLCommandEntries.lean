/- CommandEntries: for every entry the law answers true, and it reads as it did. No further conditions. -/
import Derived.Test.YtkjglpgjflkmbaaCZC
import Derived.Test.YtkjglpgjflkmbaaCZD
import Derived.Test.YtkjglpgjflkmbaaCZE
import Derived.Test.YtkjglpgjflkmbaaCZV
namespace Go.Proofs.Ytkjglpgjflkmbaa.commandEntries
open Go.ChangeShapes Go.WideShapes Go.ChangeAt Go.RowKit Go.Deep Go.Maps
set_option linter.unusedVariables false
set_option linter.unusedSimpArgs false

set_option maxRecDepth 100000 in
set_option maxHeartbeats 8000000 in
theorem walk1 (gp cl sq kd ci ir bt si q1 q2 q3 q4 q5 q6 q7 n1 n2 n3 n4 n5 t1 t2 c m wk : Int) (ta : Option Addr) (tn tc : Nat) (tk : List Int) (st : Int) (w : World) (igp : I64 gp) (icl : I64 cl) (isq : I64 sq) (ikd : I64 kd) (ici : I64 ci) (iir : I64 ir) (ibt : I64 bt) (isi : I64 si) (iq1 : I64 q1) (iq2 : I64 q2) (iq3 : I64 q3) (iq4 : I64 q4) (iq5 : I64 q5) (iq6 : I64 q6) (iq7 : I64 q7) (in1 : I64 n1) (in2 : I64 n2) (in3 : I64 n3) (in4 : I64 n4) (in5 : I64 n5) (it1 : I64 t1) (it2 : I64 t2) (ic : I64 c) (im : I64 m) (iwk : I64 wk) (ist : I64 st) (ht : HoldsN w ta tn tc tk) (hx : ∀ x ∈ tk, I64 x) (hs : tc * 8 ≤ 140737488351232) :
    Calls Try.prog 3 #[.agg #[.int .i64 gp, .int .i64 cl, .int .i64 sq, .int .i64 kd, .int .i64 ci, .int .i64 ir, .int .i64 bt, .int .i64 si, .int .i64 q1, .int .i64 q2, .int .i64 q3, .int .i64 q4, .int .i64 q5, .int .i64 q6, .int .i64 q7, .int .i64 n1, .int .i64 n2, .int .i64 n3, .int .i64 n4, .int .i64 n5, .int .i64 t1, .int .i64 t2, .int .i64 c, .int .i64 m, .int .i64 wk, .slice ta tn tc, .int .i64 st]] w fun e w' => e = .returned (.bool true) ∧ Below w.heap.size w w' := by
  have htc := ht.2.1
  have ENC := hid (fun W va vc (H : HoldsN W va tn vc tk) => encentry_any gp cl sq kd ci ir bt si q1 q2 q3 q4 q5 q6 q7 n1 n2 n3 n4 n5 t1 t2 c m wk va tn vc tk st W igp icl isq ikd ici iir ibt isi iq1 iq2 iq3 iq4 iq5 iq6 iq7 in1 in2 in3 in4 in5 it1 it2 ic im iwk ist H hx)
  have REF := hid (fun W (H : HoldsN W ta tn tc tk) => rentry_any gp cl sq kd ci ir bt si q1 q2 q3 q4 q5 q6 q7 n1 n2 n3 n4 n5 t1 t2 c m wk ta tn tc tk st W igp icl isq ikd ici iir ibt isi iq1 iq2 iq3 iq4 iq5 iq6 iq7 in1 in2 in3 in4 in5 it1 it2 ic im iwk ist H hx)
  have TWI := hid (fun W (H : HoldsN W ta tn tc tk) => tentry_any gp cl sq kd ci ir bt si q1 q2 q3 q4 q5 q6 q7 n1 n2 n3 n4 n5 t1 t2 c m wk st ta tn tc tk W H (by omega))
  have SAM := hid (fun W va vc (H : HoldsN W va tn vc tk) (H2 : HoldsN W ta tn tc tk) => sent_any gp cl sq kd ci ir bt si q1 q2 q3 q4 q5 q6 q7 n1 n2 n3 n4 n5 t1 t2 c m wk st va ta tn vc tc tk W H H2 (by omega))
  clear igp icl isq ikd ici iir ibt isi iq1 iq2 iq3 iq4 iq5 iq6 iq7 in1 in2 in3 in4 in5 it1 it2 ic im iwk ist hx
  generalize entZ gp cl sq (cmdZ kd ci ir bt si (bytesZ [q1, q2, q3, q4, q5, q6, q7]) (bytesZ [n1, n2, n3, n4, n5]) (taskZ t1 t2 c m wk tk st)) = BS at *
  generalize encE tn kd = EE at *
  go_enter Try.func3, Try.ntmps3
  go_upto_region 1 with fail
  have B0 := hid ((Below.refl w.heap.size w).alloc (Nat.le_refl _) (.cells #[.int .i64 gp, .int .i64 cl, .int .i64 sq, .int .i64 kd, .int .i64 ci, .int .i64 ir, .int .i64 bt, .int .i64 si, .int .i64 q1, .int .i64 q2, .int .i64 q3, .int .i64 q4, .int .i64 q5, .int .i64 q6, .int .i64 q7, .int .i64 n1, .int .i64 n2, .int .i64 n3, .int .i64 n4, .int .i64 n5, .int .i64 t1, .int .i64 t2, .int .i64 c, .int .i64 m, .int .i64 wk, .slice ta tn tc, .int .i64 st] 34))
  have X1 := hid (Blk.alloc w #[.int .i64 gp, .int .i64 cl, .int .i64 sq, .int .i64 kd, .int .i64 ci, .int .i64 ir, .int .i64 bt, .int .i64 si, .int .i64 q1, .int .i64 q2, .int .i64 q3, .int .i64 q4, .int .i64 q5, .int .i64 q6, .int .i64 q7, .int .i64 n1, .int .i64 n2, .int .i64 n3, .int .i64 n4, .int .i64 n5, .int .i64 t1, .int .i64 t2, .int .i64 c, .int .i64 m, .int .i64 wk, .slice ta tn tc, .int .i64 st] (34))
  have HT := hid (ht.below B0.out)
  clear ht
  generalize (w.alloc (.cells #[.int .i64 gp, .int .i64 cl, .int .i64 sq, .int .i64 kd, .int .i64 ci, .int .i64 ir, .int .i64 bt, .int .i64 si, .int .i64 q1, .int .i64 q2, .int .i64 q3, .int .i64 q4, .int .i64 q5, .int .i64 q6, .int .i64 q7, .int .i64 n1, .int .i64 n2, .int .i64 n3, .int .i64 n4, .int .i64 n5, .int .i64 t1, .int .i64 t2, .int .i64 c, .int .i64 m, .int .i64 wk, .slice ta tn tc, .int .i64 st] 34)) = W0 at *
  have AW := hid (awake10_any W0)
  go_wp2_with fail
  with_reducible refine AW.out.mono ?_
  rintro e W1 ⟨rfl, b1⟩
  replace X1 := hid (X1.out.below b1)
  replace HT := hid (HT.out.below b1)
  replace B0 := hid (B0.out.trans (b1.mono B0.out.size))
  clear AW b1
  have LD := X1.out.loadAt Try.underlying34 rfl sizeEnt
  have C1 := hid (TWI.out W1 HT.out)
  go_wp2_with (refine wpList_load_at 34 rfl (.tmp 1) rfl _ _ rfl _ LD ?_)
  with_reducible refine C1.out.mono ?_
  rintro e W2 ⟨v, rfl, o2, b2⟩
  obtain ⟨va, vc, rfl⟩ := o2.form
  replace X1 := hid (X1.out.below b2)
  replace HT := hid (HT.out.below b2)
  replace B0 := hid (B0.out.trans (b2.mono B0.out.size))
  have HV := hid (o2.holds encN_len)
  clear LD C1 b2 TWI o2
  go_upto_region 4 with (refine wpList_store_row rfl 34 (.tmp 3) (.tmp 11) rfl W2.heap.size #[.int .i64 gp, .int .i64 cl, .int .i64 sq, .int .i64 kd, .int .i64 ci, .int .i64 ir, .int .i64 bt, .int .i64 si, .int .i64 q1, .int .i64 q2, .int .i64 q3, .int .i64 q4, .int .i64 q5, .int .i64 q6, .int .i64 q7, .int .i64 n1, .int .i64 n2, .int .i64 n3, .int .i64 n4, .int .i64 n5, .int .i64 t1, .int .i64 t2, .int .i64 c, .int .i64 m, .int .i64 wk, .slice va tn vc, .int .i64 st] rfl rfl 34 _ (heap_alloc_new W2 _) sizeEnt rfl (by simp [Value.oneCell']) ?_)
  rw [alloc_row]
  have b3 := (Below.refl W2.heap.size W2).alloc (Nat.le_refl _) (.cells #[.int .i64 gp, .int .i64 cl, .int .i64 sq, .int .i64 kd, .int .i64 ci, .int .i64 ir, .int .i64 bt, .int .i64 si, .int .i64 q1, .int .i64 q2, .int .i64 q3, .int .i64 q4, .int .i64 q5, .int .i64 q6, .int .i64 q7, .int .i64 n1, .int .i64 n2, .int .i64 n3, .int .i64 n4, .int .i64 n5, .int .i64 t1, .int .i64 t2, .int .i64 c, .int .i64 m, .int .i64 wk, .slice va tn vc, .int .i64 st] 34)
  have X2 := hid (Blk.alloc W2 #[.int .i64 gp, .int .i64 cl, .int .i64 sq, .int .i64 kd, .int .i64 ci, .int .i64 ir, .int .i64 bt, .int .i64 si, .int .i64 q1, .int .i64 q2, .int .i64 q3, .int .i64 q4, .int .i64 q5, .int .i64 q6, .int .i64 q7, .int .i64 n1, .int .i64 n2, .int .i64 n3, .int .i64 n4, .int .i64 n5, .int .i64 t1, .int .i64 t2, .int .i64 c, .int .i64 m, .int .i64 wk, .slice va tn vc, .int .i64 st] (34))
  replace X1 := hid (X1.out.below b3)
  replace HT := hid (HT.out.below b3)
  replace HV := hid (HV.out.below b3)
  replace B0 := hid (B0.out.trans (b3.mono B0.out.size))
  clear b3
  generalize W2.alloc (.cells #[.int .i64 gp, .int .i64 cl, .int .i64 sq, .int .i64 kd, .int .i64 ci, .int .i64 ir, .int .i64 bt, .int .i64 si, .int .i64 q1, .int .i64 q2, .int .i64 q3, .int .i64 q4, .int .i64 q5, .int .i64 q6, .int .i64 q7, .int .i64 n1, .int .i64 n2, .int .i64 n3, .int .i64 n4, .int .i64 n5, .int .i64 t1, .int .i64 t2, .int .i64 c, .int .i64 m, .int .i64 wk, .slice va tn vc, .int .i64 st] 34) = W3 at *
  generalize W2.heap.size = QV at *
  have C2 := hid (ENC.out W3 va vc HV.out)
  have LD := X2.out.loadAt Try.underlying34 rfl sizeEnt
  go_wp2_with (refine wpList_load_at 34 rfl (.tmp 3) rfl _ _ rfl _ LD ?_)
  with_reducible refine C2.out.mono ?_
  rintro e W4 ⟨v4, rfl, g4, g4', b4⟩
  replace X1 := hid (X1.out.below b4)
  replace X2 := hid (X2.out.below b4)
  replace HT := hid (HT.out.below b4)
  replace HV := hid (HV.out.below b4)
  replace B0 := hid (B0.out.trans (b4.mono B0.out.size))
  have G4 := hid g4
  have G4' := hid g4'
  clear LD C2 b4 g4 g4' ENC
  have C3 := hid (REF.out W4 HT.out)
  have LD := X1.out.loadAt Try.underlying34 rfl sizeEnt
  go_wp2_with (refine wpList_load_at 34 rfl (.tmp 1) rfl _ _ rfl _ LD ?_)
  with_reducible refine C3.out.mono ?_
  rintro e W5 ⟨v5, rfl, g5, g5', b5⟩
  replace X1 := hid (X1.out.below b5)
  replace X2 := hid (X2.out.below b5)
  replace HT := hid (HT.out.below b5)
  replace HV := hid (HV.out.below b5)
  replace B0 := hid (B0.out.trans (b5.mono B0.out.size))
  have SAME : Hid (∃ a4 n4 c4 a5 n5 c5 l, v4 = .slice a4 n4 c4 ∧ v5 = .slice a5 n5 c5 ∧ HoldsB W5 a4 n4 c4 l ∧ HoldsB W5 a5 n5 c5 l) := by
    by_cases hE : EE = 0
    · have o4 := (G4.out hE).below' b5
      have o5 := g5 hE
      obtain ⟨a4, c4, rfl⟩ := o4.form
      obtain ⟨a5, c5, rfl⟩ := o5.form
      exact ⟨a4, _, c4, a5, _, c5, BS, rfl, rfl, o4.holds, o5.holds⟩
    · have e4 := G4'.out hE
      have e5 := g5' hE
      exact ⟨none, 0, 0, none, 0, 0, [], e4, e5, holdsB_none _, holdsB_none _⟩
  clear LD C3 b5 g5 g5' G4 G4' REF
  obtain ⟨a4, n4, c4, a5, n5, c5, l, rfl, rfl, hb4, hb5⟩ := SAME.out
  have C4 := hid (bytes_same _ _ _ _ _ _ _ _ hb4 hb5)
  clear SAME hb4 hb5
  go_wp2_with fail
  with_reducible refine C4.out.mono ?_
  rintro e W6 ⟨rfl, rfl⟩
  clear C4
  have C5 := hid (SAM.out W5 va vc HV.out HT.out)
  have LD1 := X1.out.loadAt Try.underlying34 rfl sizeEnt
  have LD2 := X2.out.loadAt Try.underlying34 rfl sizeEnt
  go_wp2_with (first | refine wpList_load_at 34 rfl (.tmp 3) rfl _ _ rfl _ LD2 ?_ | refine wpList_load_at 34 rfl (.tmp 1) rfl _ _ rfl _ LD1 ?_)
  with_reducible refine C5.out.mono ?_
  rintro e W7 ⟨rfl, b7⟩
  replace B0 := hid (B0.out.trans (b7.mono B0.out.size))
  clear C5 LD1 LD2 b7
  go_wp2_with fail
  go_ret
  exact ⟨rfl, B0.out⟩

theorem walk (gp cl sq kd ci ir bt si : Int) (q : Q7) (n : N5) (t : T7) (w : World) (ht : HoldsN w t.sa t.sl t.sc t.tk) (hk : (I64 gp ∧ I64 cl ∧ I64 sq) ∧ (I64 kd ∧ I64 ci ∧ I64 ir ∧ I64 bt ∧ I64 si) ∧ q.ok ∧ n.ok ∧ t.ok) (hs : t.sc * 8 ≤ 140737488351232) :
    Calls Try.prog 3 #[.agg #[.int .i64 gp, .int .i64 cl, .int .i64 sq, .int .i64 kd, .int .i64 ci, .int .i64 ir, .int .i64 bt, .int .i64 si, .int .i64 q.a, .int .i64 q.b, .int .i64 q.c, .int .i64 q.d, .int .i64 q.e, .int .i64 q.f, .int .i64 q.g, .int .i64 n.a, .int .i64 n.b, .int .i64 n.c, .int .i64 n.d, .int .i64 n.e, .int .i64 t.t1, .int .i64 t.t2, .int .i64 t.c, .int .i64 t.m, .int .i64 t.wk, .slice t.sa t.sl t.sc, .int .i64 t.st]] w fun e w' => e = .returned (.bool true) ∧ Below w.heap.size w w' := by
  obtain ⟨⟨h1, h2, h3⟩, ⟨h4, h5, h6, h7, h8⟩, ⟨r1, r2, r3, r4, r5, r6, r7⟩, ⟨s1, s2, s3, s4, s5⟩, ⟨u1, u2, u3, u4, u5, u6⟩, hx⟩ := hk
  exact walk1 gp cl sq kd ci ir bt si q.a q.b q.c q.d q.e q.f q.g n.a n.b n.c n.d n.e t.t1 t.t2 t.c t.m t.wk t.sa t.sl t.sc t.tk t.st w h1 h2 h3 h4 h5 h6 h7 h8 r1 r2 r3 r4 r5 r6 r7 s1 s2 s3 s4 s5 u1 u2 u3 u4 u5 u6 ht hx hs

theorem own : ownKnob Try.prog.godebug = none := by kernel_rfl
theorem laidOut : laidOutB Try.prog = true := by kernel_rfl

set_option maxRecDepth 100000 in
theorem lifted (os : Os) (started : os.Started) (H : Type) (enc : TypeId × Value → H) :
    ReturnsInHanded {} Try.checked os 3 .any (Rows.commandEntriesSpec.pre6 enc Try.prog Try.f3 Rows.commandEntriesRow.domain false) (Rows.commandEntriesSpec.post enc Try.prog Try.f3 false true false false) := by
  refine returnsInHanded_of_change_sized (C := Try.checked) own started (by kernel_rfl) Try.func3
    (ChangeSpec.witness6 (enc := enc) (C := Try.checked) false ⟨#[], #[.agg #[.int .i64 0, .int .i64 0, .int .i64 0, .int .i64 0, .int .i64 0, .int .i64 0, .int .i64 0, .int .i64 0, .int .i64 0, .int .i64 0, .int .i64 0, .int .i64 0, .int .i64 0, .int .i64 0, .int .i64 0, .int .i64 0, .int .i64 0, .int .i64 0, .int .i64 0, .int .i64 0, .int .i64 0, .int .i64 0, .int .i64 0, .int .i64 0, .int .i64 0, .slice none 0 0, .int .i64 0]], []⟩ 8 (by kernel_rfl) (by kernel_rfl) (by kernel_rfl) (by kernel_rfl)) ?_
  intro W base args ds gs before hval0 hW hcnd hsz0 _
  have hsz : (DataW.weightsEach Try.prog (Try.f3.params.toList ++ Rows.commandEntriesSpec.plain.varTypes Try.prog) (ds ++ gs)).all (· ≤ reachBytes) = true := hsz0
  have hval : ∀ (j : Nat) t v, Try.f3.params[j]? = some t → args[j]? = some v → Value.okWide Try.prog W .any base t v := hval0
  have hW' := hW
  obtain ⟨p, q, hA0, hV, rfl, hfz, hnd⟩ := hW
  have hA : DataW.TrodAll enc Try.prog W 0 (fun _ => true) true Try.f3.params.toList args.toList ds p := hA0
  rw [Try.params3] at hA hval hsz
  obtain ⟨v0, vs0, d0, ds0, p0, q0, hargs, rfl, rfl, h0, r0⟩ := trodAll_cons hA
  obtain ⟨rfl, rfl, rfl⟩ := trodAll_nil r0
  obtain rfl : args = #[v0] := by cases args; simp_all
  obtain ⟨rfl, rfl⟩ := trodVars_none hV
  have lt0 : ∀ x ∈ p0, x.block < W.heap.size := by obtain ⟨m, hm⟩ := h0; exact DataW.trod_lt m _ _ _ hm
  obtain ⟨gp0, cl0, sq0, kd0, ci0, ir0, bt0, si0, q0, n0, t0, rfl, w0, k0, sz0⟩ := val_entry (hval 0 34 v0 rfl rfl) h0
  have s0 : t0.sc * 8 ≤ 140737488351232 := sz0 (by rw [List.all_eq_true]; intro n hn; exact (List.all_eq_true.1 hsz) n (DataW.weights_mem_each (j := 0) rfl rfl n hn))
  clear hA0 hval0
  refine (walk gp0 cl0 sq0 kd0 ci0 ir0 bt0 si0 q0 n0 t0 W w0 k0 s0).mono fun e W' ⟨he, bel⟩ => ?_
  subst he
  exact ⟨_, rfl, _, _, _, [], _, [], hW', trodAll_mk1 (shut_bool Try.underlying4 _), (trodAll_cons_mk (Below.trod laidOut (by kernel_rfl) (of_decide_eq_true (by kernel_rfl)) h0 bel lt0) trodAll_mk0), rfl, bel.frame _, fun h => by cases h⟩

theorem over : Rows.commandEntriesRow.holds Try.pinned (OpenSpec.ofChange Rows.commandEntriesSpec) :=
  OpenClaim.holds_of_wide 3 Try.f3 rfl rfl rfl rfl rfl rfl rfl ⟨rfl, rfl, rfl, rfl, rfl⟩ rfl rfl rfl rfl rfl (by kernel_rfl) Try.func3 (by kernel_rfl)
    (of_decide_eq_true (by kernel_rfl)) (by unfold Func.isWrapper; first | (rw [if_pos (by decide +kernel)]; kernel_rfl) | (rw [if_neg (by decide +kernel)]; exact ⟨rfl, rfl⟩))
    (fun os started H enc _ => lifted os started H enc)

theorem proved : Rows.CommandEntriesSaid := over
end Go.Proofs.Ytkjglpgjflkmbaa.commandEntries
