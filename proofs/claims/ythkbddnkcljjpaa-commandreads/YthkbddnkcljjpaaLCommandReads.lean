/- CommandReads: for all bytes the law answers true, and they read as they did. No further conditions. -/
import Derived.Test.YthkbddnkcljjpaaMFA
import Derived.Test.YthkbddnkcljjpaaMFI
import Derived.Test.YthkbddnkcljjpaaMFP
import Derived.Test.YthkbddnkcljjpaaMCZ
namespace Go.Proofs.Ythkbddnkcljjpaa.commandReads
open Go.ChangeShapes Go.WideShapes Go.ChangeAt Go.RowKit Go.Deep Go.Maps
set_option linter.unusedVariables false
set_option linter.unusedSimpArgs false

set_option maxRecDepth 100000 in
set_option maxHeartbeats 8000000 in
theorem main (a : Option Addr) (n c : Nat) (l : List Int) (w : World) (hl : HoldsB w a n c l) :
    Calls Try.prog 6 #[.slice a n c] w fun e w' => e = .returned (.bool true) ∧ Below w.heap.size w w' := by
  have HB := hid hl.2.2.2.2.1
  have HL := hid hl
  clear hl
  have DE := hid (fun W (H : HoldsB W a n c l) => decentry_any a n c l W H)
  have RE := hid (fun W (H : HoldsB W a n c l) => ddocentry_any a n c l W H)
  have ME := hid (fun (b b' : Nat) (W : World) (cs ds : Array Value) h => same_ent (l := l) (b := b) (b' := b') (W := W) (cs := cs) (ds := ds) HB.out h)
  have SE := hid (fun (b : Nat) (W : World) (cs : Array Value) h => EnO.shape (l := l) (A := 0) (E := 0) (b := b) (W := W) (cs := cs) h)
  have VE := hid (fun (b : Nat) (W W' : World) (cs : Array Value) (h : EnO l 0 0 b W cs) (hb : Below W.heap.size W W') => h.below' hb)
  generalize endT n (enE l 0 0).2.1 (enE l 0 0).2.2 = UE at *
  obtain ⟨PE, EE⟩ := UE
  simp only at DE RE
  generalize EnO l 0 0 = OE at *
  have DA := hid (fun W (H : HoldsB W a n c l) => decanswer_any a n c l W H)
  have RA := hid (fun W (H : HoldsB W a n c l) => ddocanswer_any a n c l W H)
  have MA := hid (fun (b b' : Nat) (W : World) (cs ds : Array Value) h => same_ans (l := l) (b := b) (b' := b') (W := W) (cs := cs) (ds := ds) HB.out h)
  have SA := hid (fun (b : Nat) (W : World) (cs : Array Value) h => AnO.shape (l := l) (A := 0) (E := 0) (b := b) (W := W) (cs := cs) h)
  have VA := hid (fun (b : Nat) (W W' : World) (cs : Array Value) (h : AnO l 0 0 b W cs) (hb : Below W.heap.size W W') => h.below' hb)
  generalize endT n (anE l 0 0).1 (anE l 0 0).2 = UA at *
  obtain ⟨PA, EA⟩ := UA
  simp only at DA RA
  generalize AnO l 0 0 = OA at *
  have DS := hid (fun W (H : HoldsB W a n c l) => decstate_any a n c l W H)
  have RS := hid (fun W (H : HoldsB W a n c l) => ddocstate_any a n c l W H)
  have MS := hid (fun (b b' : Nat) (W : World) (cs ds : Array Value) h => same_sta (l := l) (b := b) (b' := b') (W := W) (cs := cs) (ds := ds) HB.out h)
  have SS := hid (fun (b : Nat) (W : World) (cs : Array Value) h => StO.shape (l := l) (A := 0) (E := 0) (b := b) (W := W) (cs := cs) h)
  have VS := hid (fun (b : Nat) (W W' : World) (cs : Array Value) (h : StO l 0 0 b W cs) (hb : Below W.heap.size W W') => h.below' hb)
  generalize endT n (sHB l 0 0).1 (sHB l 0 0).2 = US at *
  obtain ⟨PS, ES⟩ := US
  simp only at DS RS
  generalize StO l 0 0 = OS at *
  clear HB
  go_enter Try.func6, Try.ntmps6
  have AW := hid (awake10_any w)
  go_wp2_with fail
  with_reducible refine AW.out.mono ?_
  rintro e W0 ⟨rfl, b1⟩
  have B := hid b1
  replace HL := hid (HL.out.below b1)
  clear AW b1
  have C1 := hid (DE.out W0 HL.out)
  go_wp2_with fail
  with_reducible refine C1.out.mono ?_
  rintro e W1 ⟨cs, rfl, hz, ho, hcs, hon, b1⟩
  have b2 := (Below.refl W1.heap.size W1).alloc (Nat.le_refl _) (.cells cs 34)
  have Xcs := hid (Blk.alloc W1 cs (34))
  have hszcs : (Try.prog.info? 34).map (·.size) = some cs.size := by rw [hcs]; exact sizeEnt
  have Zcs := hid hz
  have Ycs := hid (fun h => VE.out _ _ _ _ (ho h) b2)
  replace HL := hid ((HL.out.below b1).below b2)
  replace B := hid ((B.out.trans (b1.mono B.out.size)).trans (b2.mono (B.out.trans (b1.mono B.out.size)).size))
  have HOcs := hid hon
  have HCcs := hid hcs
  have HScs := hid hszcs
  clear C1 b1 b2 hz ho hon hszcs hcs
  go_upto_region 4 with (refine wpList_store_row rfl 34 (.tmp 3) (.tmp 18) rfl W1.heap.size cs rfl rfl 34 _ (heap_alloc_new W1 _) HScs.out (by rw [HCcs.out]; rfl) HOcs.out ?_)
  rw [alloc_row]
  generalize W1.alloc (.cells cs 34) = W2 at *
  generalize W1.heap.size = Qcs at *
  have C1 := hid (RE.out W2 HL.out)
  go_wp2_with fail
  with_reducible refine C1.out.mono ?_
  rintro e W3 ⟨ds, rfl, gz, go, b1⟩
  have hshape : ds.size = 27 ∧ ds.all (·.oneCell') = true := by
    by_cases h : EE = 0
    · exact SE.out _ _ _ (go h)
    · rw [gz h]; exact ⟨rfl, by simp [Value.oneCell']⟩
  obtain ⟨hds, hon⟩ := hshape
  have b2 := (Below.refl W3.heap.size W3).alloc (Nat.le_refl _) (.cells ds 34)
  have Xds := hid (Blk.alloc W3 ds (34))
  have hszds : (Try.prog.info? 34).map (·.size) = some ds.size := by rw [hds]; exact sizeEnt
  have Zds := hid gz
  have Yds := hid (fun h => VE.out _ _ _ _ (go h) b2)
  replace Xcs := hid ((Xcs.out.below b1).below b2)
  replace Ycs := hid (fun h => VE.out _ _ _ _ (VE.out _ _ _ _ (Ycs.out h) b1) b2)
  replace HL := hid ((HL.out.below b1).below b2)
  replace B := hid ((B.out.trans (b1.mono B.out.size)).trans (b2.mono (B.out.trans (b1.mono B.out.size)).size))
  have HOds := hid hon
  have HCds := hid hds
  have HSds := hid hszds
  clear C1 b1 b2 gz go hon hszds hds
  go_upto_region 5 with (refine wpList_store_row rfl 34 (.tmp 6) (.tmp 24) rfl W3.heap.size ds rfl rfl 34 _ (heap_alloc_new W3 _) HSds.out (by rw [HCds.out]; rfl) HOds.out ?_)
  rw [alloc_row]
  generalize W3.alloc (.cells ds 34) = W4 at *
  generalize W3.heap.size = Qds at *
  have AL : ∃ b b', (cs = #[.int .i64 0, .int .i64 0, .int .i64 0, .int .i64 0, .int .i64 0, .int .i64 0, .int .i64 0, .int .i64 0, .int .i64 0, .int .i64 0, .int .i64 0, .int .i64 0, .int .i64 0, .int .i64 0, .int .i64 0, .int .i64 0, .int .i64 0, .int .i64 0, .int .i64 0, .int .i64 0, .int .i64 0, .int .i64 0, .int .i64 0, .int .i64 0, .int .i64 0, .slice none 0 0, .int .i64 0] ∧ ds = #[.int .i64 0, .int .i64 0, .int .i64 0, .int .i64 0, .int .i64 0, .int .i64 0, .int .i64 0, .int .i64 0, .int .i64 0, .int .i64 0, .int .i64 0, .int .i64 0, .int .i64 0, .int .i64 0, .int .i64 0, .int .i64 0, .int .i64 0, .int .i64 0, .int .i64 0, .int .i64 0, .int .i64 0, .int .i64 0, .int .i64 0, .int .i64 0, .int .i64 0, .slice none 0 0, .int .i64 0]) ∨ (OE b W4 cs ∧ OE b' W4 ds) := by
    by_cases h : EE = 0
    · exact ⟨_, _, Or.inr ⟨Ycs.out h, Yds.out h⟩⟩
    · exact ⟨0, 0, Or.inl ⟨Zcs.out h, Zds.out h⟩⟩
  obtain ⟨ba, bb, AL⟩ := AL
  have C1 := hid (ME.out ba bb W4 cs ds AL)
  have LD1 := Xcs.out.loadAt Try.underlying34 rfl HScs.out
  have LD2 := Xds.out.loadAt Try.underlying34 rfl HSds.out
  clear AL Ycs Yds Zcs Zds Xcs Xds HOcs HOds HCcs HCds DE RE ME SE VE
  go_wp2_with (first | refine wpList_load_at 34 rfl (.tmp 3) rfl _ _ rfl _ LD1 ?_ | refine wpList_load_at 34 rfl (.tmp 6) rfl _ _ rfl _ LD2 ?_)
  with_reducible refine C1.out.mono ?_
  rintro e W5 ⟨rfl, b1⟩
  replace HL := hid (HL.out.below b1)
  replace B := hid (B.out.trans (b1.mono B.out.size))
  clear C1 b1 LD1 LD2 HScs HSds
  generalize W5 = W0 at *
  have C1 := hid (DA.out W0 HL.out)
  go_wp2_with fail
  with_reducible refine C1.out.mono ?_
  rintro e W1 ⟨cs, rfl, hz, ho, hcs, hon, b1⟩
  have b2 := (Below.refl W1.heap.size W1).alloc (Nat.le_refl _) (.cells cs 46)
  have Xcs := hid (Blk.alloc W1 cs (46))
  have hszcs : (Try.prog.info? 46).map (·.size) = some cs.size := by rw [hcs]; exact sizeAns
  have Zcs := hid hz
  have Ycs := hid (fun h => VA.out _ _ _ _ (ho h) b2)
  replace HL := hid ((HL.out.below b1).below b2)
  replace B := hid ((B.out.trans (b1.mono B.out.size)).trans (b2.mono (B.out.trans (b1.mono B.out.size)).size))
  have HOcs := hid hon
  have HCcs := hid hcs
  have HScs := hid hszcs
  clear C1 b1 b2 hz ho hon hszcs hcs
  go_upto_region 8 with (refine wpList_store_row rfl 46 (.tmp 9) (.tmp 44) rfl W1.heap.size cs rfl rfl 46 _ (heap_alloc_new W1 _) HScs.out (by rw [HCcs.out]; rfl) HOcs.out ?_)
  rw [alloc_row]
  generalize W1.alloc (.cells cs 46) = W2 at *
  generalize W1.heap.size = Qcs at *
  have C1 := hid (RA.out W2 HL.out)
  go_wp2_with fail
  with_reducible refine C1.out.mono ?_
  rintro e W3 ⟨ds, rfl, gz, go, b1⟩
  have hshape : ds.size = 5 ∧ ds.all (·.oneCell') = true := by
    by_cases h : EA = 0
    · exact SA.out _ _ _ (go h)
    · rw [gz h]; exact ⟨rfl, by simp [Value.oneCell']⟩
  obtain ⟨hds, hon⟩ := hshape
  have b2 := (Below.refl W3.heap.size W3).alloc (Nat.le_refl _) (.cells ds 46)
  have Xds := hid (Blk.alloc W3 ds (46))
  have hszds : (Try.prog.info? 46).map (·.size) = some ds.size := by rw [hds]; exact sizeAns
  have Zds := hid gz
  have Yds := hid (fun h => VA.out _ _ _ _ (go h) b2)
  replace Xcs := hid ((Xcs.out.below b1).below b2)
  replace Ycs := hid (fun h => VA.out _ _ _ _ (VA.out _ _ _ _ (Ycs.out h) b1) b2)
  replace HL := hid ((HL.out.below b1).below b2)
  replace B := hid ((B.out.trans (b1.mono B.out.size)).trans (b2.mono (B.out.trans (b1.mono B.out.size)).size))
  have HOds := hid hon
  have HCds := hid hds
  have HSds := hid hszds
  clear C1 b1 b2 gz go hon hszds hds
  go_upto_region 9 with (refine wpList_store_row rfl 46 (.tmp 10) (.tmp 50) rfl W3.heap.size ds rfl rfl 46 _ (heap_alloc_new W3 _) HSds.out (by rw [HCds.out]; rfl) HOds.out ?_)
  rw [alloc_row]
  generalize W3.alloc (.cells ds 46) = W4 at *
  generalize W3.heap.size = Qds at *
  have AL : ∃ b b', (cs = #[.int .i64 0, .int .i64 0, .int .i64 0, .slice none 0 0, .slice none 0 0] ∧ ds = #[.int .i64 0, .int .i64 0, .int .i64 0, .slice none 0 0, .slice none 0 0]) ∨ (OA b W4 cs ∧ OA b' W4 ds) := by
    by_cases h : EA = 0
    · exact ⟨_, _, Or.inr ⟨Ycs.out h, Yds.out h⟩⟩
    · exact ⟨0, 0, Or.inl ⟨Zcs.out h, Zds.out h⟩⟩
  obtain ⟨ba, bb, AL⟩ := AL
  have C1 := hid (MA.out ba bb W4 cs ds AL)
  have LD1 := Xcs.out.loadAt Try.underlying46 rfl HScs.out
  have LD2 := Xds.out.loadAt Try.underlying46 rfl HSds.out
  clear AL Ycs Yds Zcs Zds Xcs Xds HOcs HOds HCcs HCds DA RA MA SA VA
  go_wp2_with (first | refine wpList_load_at 46 rfl (.tmp 9) rfl _ _ rfl _ LD1 ?_ | refine wpList_load_at 46 rfl (.tmp 10) rfl _ _ rfl _ LD2 ?_)
  with_reducible refine C1.out.mono ?_
  rintro e W5 ⟨rfl, b1⟩
  replace HL := hid (HL.out.below b1)
  replace B := hid (B.out.trans (b1.mono B.out.size))
  clear C1 b1 LD1 LD2 HScs HSds
  generalize W5 = W0 at *
  have C1 := hid (DS.out W0 HL.out)
  go_wp2_with fail
  with_reducible refine C1.out.mono ?_
  rintro e W1 ⟨cs, rfl, hz, ho, hcs, hon, b1⟩
  have b2 := (Below.refl W1.heap.size W1).alloc (Nat.le_refl _) (.cells cs 54)
  have Xcs := hid (Blk.alloc W1 cs (54))
  have hszcs : (Try.prog.info? 54).map (·.size) = some cs.size := by rw [hcs]; exact sizeSta
  have Zcs := hid hz
  have Ycs := hid (fun h => VS.out _ _ _ _ (ho h) b2)
  replace HL := hid ((HL.out.below b1).below b2)
  replace B := hid ((B.out.trans (b1.mono B.out.size)).trans (b2.mono (B.out.trans (b1.mono B.out.size)).size))
  have HOcs := hid hon
  have HCcs := hid hcs
  have HScs := hid hszcs
  clear C1 b1 b2 hz ho hon hszcs hcs
  go_upto_region 12 with (refine wpList_store_row rfl 54 (.tmp 11) (.tmp 70) rfl W1.heap.size cs rfl rfl 54 _ (heap_alloc_new W1 _) HScs.out (by rw [HCcs.out]; rfl) HOcs.out ?_)
  rw [alloc_row]
  generalize W1.alloc (.cells cs 54) = W2 at *
  generalize W1.heap.size = Qcs at *
  have C1 := hid (RS.out W2 HL.out)
  go_wp2_with fail
  with_reducible refine C1.out.mono ?_
  rintro e W3 ⟨ds, rfl, gz, go, b1⟩
  have hshape : ds.size = 8 ∧ ds.all (·.oneCell') = true := by
    by_cases h : ES = 0
    · exact SS.out _ _ _ (go h)
    · rw [gz h]; exact ⟨rfl, by simp [Value.oneCell']⟩
  obtain ⟨hds, hon⟩ := hshape
  have b2 := (Below.refl W3.heap.size W3).alloc (Nat.le_refl _) (.cells ds 54)
  have Xds := hid (Blk.alloc W3 ds (54))
  have hszds : (Try.prog.info? 54).map (·.size) = some ds.size := by rw [hds]; exact sizeSta
  have Zds := hid gz
  have Yds := hid (fun h => VS.out _ _ _ _ (go h) b2)
  replace Xcs := hid ((Xcs.out.below b1).below b2)
  replace Ycs := hid (fun h => VS.out _ _ _ _ (VS.out _ _ _ _ (Ycs.out h) b1) b2)
  replace HL := hid ((HL.out.below b1).below b2)
  replace B := hid ((B.out.trans (b1.mono B.out.size)).trans (b2.mono (B.out.trans (b1.mono B.out.size)).size))
  have HOds := hid hon
  have HCds := hid hds
  have HSds := hid hszds
  clear C1 b1 b2 gz go hon hszds hds
  go_upto_region 13 with (refine wpList_store_row rfl 54 (.tmp 12) (.tmp 76) rfl W3.heap.size ds rfl rfl 54 _ (heap_alloc_new W3 _) HSds.out (by rw [HCds.out]; rfl) HOds.out ?_)
  rw [alloc_row]
  generalize W3.alloc (.cells ds 54) = W4 at *
  generalize W3.heap.size = Qds at *
  have AL : ∃ b b', (cs = #[.int .i64 0, .int .i64 0, .int .i64 0, .slice none 0 0, .slice none 0 0, .slice none 0 0, .slice none 0 0, .slice none 0 0] ∧ ds = #[.int .i64 0, .int .i64 0, .int .i64 0, .slice none 0 0, .slice none 0 0, .slice none 0 0, .slice none 0 0, .slice none 0 0]) ∨ (OS b W4 cs ∧ OS b' W4 ds) := by
    by_cases h : ES = 0
    · exact ⟨_, _, Or.inr ⟨Ycs.out h, Yds.out h⟩⟩
    · exact ⟨0, 0, Or.inl ⟨Zcs.out h, Zds.out h⟩⟩
  obtain ⟨ba, bb, AL⟩ := AL
  have C1 := hid (MS.out ba bb W4 cs ds AL)
  have LD1 := Xcs.out.loadAt Try.underlying54 rfl HScs.out
  have LD2 := Xds.out.loadAt Try.underlying54 rfl HSds.out
  clear AL Ycs Yds Zcs Zds Xcs Xds HOcs HOds HCcs HCds DS RS MS SS VS
  go_wp2_with (first | refine wpList_load_at 54 rfl (.tmp 11) rfl _ _ rfl _ LD1 ?_ | refine wpList_load_at 54 rfl (.tmp 12) rfl _ _ rfl _ LD2 ?_)
  with_reducible refine C1.out.mono ?_
  rintro e W5 ⟨rfl, b1⟩
  replace HL := hid (HL.out.below b1)
  replace B := hid (B.out.trans (b1.mono B.out.size))
  clear C1 b1 LD1 LD2 HScs HSds
  go_wp2_with fail
  go_ret
  exact ⟨rfl, B.out⟩

theorem walk (a : Option Addr) (len cap : Nat) (z : List Int) (w : World) (h : IsRow .u8 w a len cap z) :
    Calls Try.prog 6 #[.slice a len cap] w fun e w' => e = .returned (.bool true) ∧ Below w.heap.size w w' :=
  main a len cap _ w (holdsB_row h)

theorem own : ownKnob Try.prog.godebug = none := by kernel_rfl
theorem laidOut : laidOutB Try.prog = true := by kernel_rfl

set_option maxRecDepth 100000 in
theorem lifted (os : Os) (started : os.Started) (H : Type) (enc : TypeId × Value → H) :
    ReturnsInHanded {} Try.checked os 6 .any (Rows.commandReadsSpec.pre6 enc Try.prog Try.f6 Rows.commandReadsRow.domain false) (Rows.commandReadsSpec.post enc Try.prog Try.f6 false true false false) := by
  refine returnsInHanded_of_change (C := Try.checked) own started (by kernel_rfl) Try.func6
    (ChangeSpec.witness6 (enc := enc) (C := Try.checked) false ⟨#[], #[.slice none 0 0], []⟩ 8 (by kernel_rfl) (by kernel_rfl) (by kernel_rfl) (by kernel_rfl)) ?_
  intro W base args ds gs before hval0 hW hcnd _
  have hval : ∀ (j : Nat) t v, Try.f6.params[j]? = some t → args[j]? = some v → Value.okWide Try.prog W .any base t v := hval0
  have hW' := hW
  obtain ⟨p, q, hA0, hV, rfl, hfz, hnd⟩ := hW
  have hA : DataW.TrodAll enc Try.prog W 0 (fun _ => true) true Try.f6.params.toList args.toList ds p := hA0
  rw [Try.params6] at hA hval
  obtain ⟨v0, vs0, d0, ds0, p0, q0, hargs, rfl, rfl, h0, r0⟩ := trodAll_cons hA
  obtain ⟨rfl, rfl, rfl⟩ := trodAll_nil r0
  obtain rfl : args = #[v0] := by cases args; simp_all
  obtain ⟨rfl, rfl⟩ := trodVars_none hV
  have lt0 : ∀ x ∈ p0, x.block < W.heap.size := by obtain ⟨m, hm⟩ := h0; exact DataW.trod_lt m _ _ _ hm
  obtain ⟨a0, len0, cap0, rfl⟩ := okWide_slice Try.underlying37 (hval 0 37 v0 rfl rfl)
  obtain ⟨z0, w0⟩ := val_row Try.underlying37 Try.underlying5 (by kernel_rfl) h0
  clear hA0 hval0
  refine (walk a0 len0 cap0 z0 W w0).mono fun e W' ⟨he, bel⟩ => ?_
  subst he
  exact ⟨_, rfl, _, _, _, [], _, [], hW', trodAll_mk1 (shut_bool Try.underlying4 _), (trodAll_cons_mk (Below.trod laidOut (by kernel_rfl) (of_decide_eq_true (by kernel_rfl)) h0 bel lt0) trodAll_mk0), rfl, bel.frame _, fun h => by cases h⟩

theorem over : Rows.commandReadsRow.holds Try.pinned (OpenSpec.ofChange Rows.commandReadsSpec) :=
  OpenClaim.holds_of_wide 6 Try.f6 rfl rfl rfl rfl rfl rfl rfl ⟨rfl, rfl, rfl, rfl, rfl⟩ rfl rfl rfl rfl rfl (by kernel_rfl) Try.func6 (by kernel_rfl)
    (of_decide_eq_true (by kernel_rfl)) (by unfold Func.isWrapper; first | (rw [if_pos (by decide +kernel)]; kernel_rfl) | (rw [if_neg (by decide +kernel)]; exact ⟨rfl, rfl⟩))
    (fun os started H enc _ => lifted os started H enc)

theorem proved : Rows.CommandReadsSaid := over
#print axioms proved
end Go.Proofs.Ythkbddnkcljjpaa.commandReads
