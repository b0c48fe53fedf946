/- CommandApart: for every two entries the law answers true, and they read as they did. No further conditions. -/
import Derived.Test.YtkjglpgjflkmbaaMCF
import Derived.Test.YtkjglpgjflkmbaaMCZ
import Derived.Test.YtkjglpgjflkmbaaMCM
import Derived.Test.YtkjglpgjflkmbaaCZV
namespace Go.Proofs.Ytkjglpgjflkmbaa.commandApart
open Go.ChangeShapes Go.WideShapes Go.ChangeAt Go.RowKit Go.Deep Go.Maps
set_option linter.unusedVariables false
set_option linter.unusedSimpArgs false

set_option maxRecDepth 100000 in
set_option maxHeartbeats 16000000 in
theorem walk1 (gp cl sq kd ci ir bt si q1 q2 q3 q4 q5 q6 q7 n1 n2 n3 n4 n5 t1 t2 c m wk gp' cl' sq' kd' ci' ir' bt' si' q1' q2' q3' q4' q5' q6' q7' n1' n2' n3' n4' n5' t1' t2' c' m' wk' : Int) (ta tb : Option Addr) (tn tm tc td : Nat) (tk tk' : List Int) (st st' : Int) (w : World) (igp : I64 gp) (icl : I64 cl) (isq : I64 sq) (ikd : I64 kd) (ici : I64 ci) (iir : I64 ir) (ibt : I64 bt) (isi : I64 si) (iq1 : I64 q1) (iq2 : I64 q2) (iq3 : I64 q3) (iq4 : I64 q4) (iq5 : I64 q5) (iq6 : I64 q6) (iq7 : I64 q7) (in1 : I64 n1) (in2 : I64 n2) (in3 : I64 n3) (in4 : I64 n4) (in5 : I64 n5) (it1 : I64 t1) (it2 : I64 t2) (ic : I64 c) (im : I64 m) (iwk : I64 wk) (ist : I64 st) (igp' : I64 gp') (icl' : I64 cl') (isq' : I64 sq') (ikd' : I64 kd') (ici' : I64 ci') (iir' : I64 ir') (ibt' : I64 bt') (isi' : I64 si') (iq1' : I64 q1') (iq2' : I64 q2') (iq3' : I64 q3') (iq4' : I64 q4') (iq5' : I64 q5') (iq6' : I64 q6') (iq7' : I64 q7') (in1' : I64 n1') (in2' : I64 n2') (in3' : I64 n3') (in4' : I64 n4') (in5' : I64 n5') (it1' : I64 t1') (it2' : I64 t2') (ic' : I64 c') (im' : I64 m') (iwk' : I64 wk') (ist' : I64 st') (ht : HoldsN w ta tn tc tk) (ht' : HoldsN w tb tm td tk') (hx : ∀ x ∈ tk, I64 x) (hx' : ∀ x ∈ tk', I64 x) (hs : tc * 8 ≤ 140737488351232) :
    Calls Try.prog 9 #[.agg #[.int .i64 gp, .int .i64 cl, .int .i64 sq, .int .i64 kd, .int .i64 ci, .int .i64 ir, .int .i64 bt, .int .i64 si, .int .i64 q1, .int .i64 q2, .int .i64 q3, .int .i64 q4, .int .i64 q5, .int .i64 q6, .int .i64 q7, .int .i64 n1, .int .i64 n2, .int .i64 n3, .int .i64 n4, .int .i64 n5, .int .i64 t1, .int .i64 t2, .int .i64 c, .int .i64 m, .int .i64 wk, .slice ta tn tc, .int .i64 st], .agg #[.int .i64 gp', .int .i64 cl', .int .i64 sq', .int .i64 kd', .int .i64 ci', .int .i64 ir', .int .i64 bt', .int .i64 si', .int .i64 q1', .int .i64 q2', .int .i64 q3', .int .i64 q4', .int .i64 q5', .int .i64 q6', .int .i64 q7', .int .i64 n1', .int .i64 n2', .int .i64 n3', .int .i64 n4', .int .i64 n5', .int .i64 t1', .int .i64 t2', .int .i64 c', .int .i64 m', .int .i64 wk', .slice tb tm td, .int .i64 st']] w fun e w' => e = .returned (.bool true) ∧ Below w.heap.size w w' := by
  have htc := ht.2.1
  have htl := ht.1
  have htl' := ht'.1
  have ENC := hid (fun W (H : HoldsN W ta tn tc tk) => encentry_any gp cl sq kd ci ir bt si q1 q2 q3 q4 q5 q6 q7 n1 n2 n3 n4 n5 t1 t2 c m wk ta tn tc tk st W igp icl isq ikd ici iir ibt isi iq1 iq2 iq3 iq4 iq5 iq6 iq7 in1 in2 in3 in4 in5 it1 it2 ic im iwk ist H hx)
  have ENC' := hid (fun W (H : HoldsN W tb tm td tk') => encentry_any gp' cl' sq' kd' ci' ir' bt' si' q1' q2' q3' q4' q5' q6' q7' n1' n2' n3' n4' n5' t1' t2' c' m' wk' tb tm td tk' st' W igp' icl' isq' ikd' ici' iir' ibt' isi' iq1' iq2' iq3' iq4' iq5' iq6' iq7' in1' in2' in3' in4' in5' it1' it2' ic' im' iwk' ist' H hx')
  have INJ := hid (fun h1 h2 h3 => ent_inj gp cl sq kd ci ir bt si q1 q2 q3 q4 q5 q6 q7 n1 n2 n3 n4 n5 t1 t2 c m wk st gp' cl' sq' kd' ci' ir' bt' si' q1' q2' q3' q4' q5' q6' q7' n1' n2' n3' n4' n5' t1' t2' c' m' wk' st' tk tk' h1 h2 igp icl isq ikd ici iir ibt isi iq1 iq2 iq3 iq4 iq5 iq6 iq7 in1 in2 in3 in4 in5 it1 it2 ic im iwk ist igp' icl' isq' ikd' ici' iir' ibt' isi' iq1' iq2' iq3' iq4' iq5' iq6' iq7' in1' in2' in3' in4' in5' it1' it2' ic' im' iwk' ist' hx hx' h3)
  clear igp icl isq ikd ici iir ibt isi iq1 iq2 iq3 iq4 iq5 iq6 iq7 in1 in2 in3 in4 in5 it1 it2 ic im iwk ist igp' icl' isq' ikd' ici' iir' ibt' isi' iq1' iq2' iq3' iq4' iq5' iq6' iq7' in1' in2' in3' in4' in5' it1' it2' ic' im' iwk' ist' hx hx'
  generalize hb1 : entZ gp cl sq (cmdZ kd ci ir bt si (bytesZ [q1, q2, q3, q4, q5, q6, q7]) (bytesZ [n1, n2, n3, n4, n5]) (taskZ t1 t2 c m wk tk st)) = BS1 at *
  generalize hb2 : entZ gp' cl' sq' (cmdZ kd' ci' ir' bt' si' (bytesZ [q1', q2', q3', q4', q5', q6', q7']) (bytesZ [n1', n2', n3', n4', n5']) (taskZ t1' t2' c' m' wk' tk' st')) = BS2 at *
  have Q1 := hid hb1
  have Q2 := hid hb2
  clear hb1 hb2
  generalize he1 : encE tn kd = e1 at *
  generalize he2 : encE tm kd' = e2 at *
  have F1 := hid he1
  have F2 := hid he2
  clear he1 he2
  go_enter Try.func9, Try.ntmps9
  go_upto_region 1 with fail
  have B0 := hid (((Below.refl w.heap.size w).alloc (Nat.le_refl _) (.cells #[.int .i64 gp, .int .i64 cl, .int .i64 sq, .int .i64 kd, .int .i64 ci, .int .i64 ir, .int .i64 bt, .int .i64 si, .int .i64 q1, .int .i64 q2, .int .i64 q3, .int .i64 q4, .int .i64 q5, .int .i64 q6, .int .i64 q7, .int .i64 n1, .int .i64 n2, .int .i64 n3, .int .i64 n4, .int .i64 n5, .int .i64 t1, .int .i64 t2, .int .i64 c, .int .i64 m, .int .i64 wk, .slice ta tn tc, .int .i64 st] 34)).alloc (by simp) (.cells #[.int .i64 gp', .int .i64 cl', .int .i64 sq', .int .i64 kd', .int .i64 ci', .int .i64 ir', .int .i64 bt', .int .i64 si', .int .i64 q1', .int .i64 q2', .int .i64 q3', .int .i64 q4', .int .i64 q5', .int .i64 q6', .int .i64 q7', .int .i64 n1', .int .i64 n2', .int .i64 n3', .int .i64 n4', .int .i64 n5', .int .i64 t1', .int .i64 t2', .int .i64 c', .int .i64 m', .int .i64 wk', .slice tb tm td, .int .i64 st'] 34))
  have X1 := hid ((Blk.alloc w #[.int .i64 gp, .int .i64 cl, .int .i64 sq, .int .i64 kd, .int .i64 ci, .int .i64 ir, .int .i64 bt, .int .i64 si, .int .i64 q1, .int .i64 q2, .int .i64 q3, .int .i64 q4, .int .i64 q5, .int .i64 q6, .int .i64 q7, .int .i64 n1, .int .i64 n2, .int .i64 n3, .int .i64 n4, .int .i64 n5, .int .i64 t1, .int .i64 t2, .int .i64 c, .int .i64 m, .int .i64 wk, .slice ta tn tc, .int .i64 st] (34)).below ((Below.refl _ _).alloc (Nat.le_refl _) (.cells #[.int .i64 gp', .int .i64 cl', .int .i64 sq', .int .i64 kd', .int .i64 ci', .int .i64 ir', .int .i64 bt', .int .i64 si', .int .i64 q1', .int .i64 q2', .int .i64 q3', .int .i64 q4', .int .i64 q5', .int .i64 q6', .int .i64 q7', .int .i64 n1', .int .i64 n2', .int .i64 n3', .int .i64 n4', .int .i64 n5', .int .i64 t1', .int .i64 t2', .int .i64 c', .int .i64 m', .int .i64 wk', .slice tb tm td, .int .i64 st'] 34)))
  have X2 := hid (Blk.alloc (w.alloc (.cells #[.int .i64 gp, .int .i64 cl, .int .i64 sq, .int .i64 kd, .int .i64 ci, .int .i64 ir, .int .i64 bt, .int .i64 si, .int .i64 q1, .int .i64 q2, .int .i64 q3, .int .i64 q4, .int .i64 q5, .int .i64 q6, .int .i64 q7, .int .i64 n1, .int .i64 n2, .int .i64 n3, .int .i64 n4, .int .i64 n5, .int .i64 t1, .int .i64 t2, .int .i64 c, .int .i64 m, .int .i64 wk, .slice ta tn tc, .int .i64 st] 34)) #[.int .i64 gp', .int .i64 cl', .int .i64 sq', .int .i64 kd', .int .i64 ci', .int .i64 ir', .int .i64 bt', .int .i64 si', .int .i64 q1', .int .i64 q2', .int .i64 q3', .int .i64 q4', .int .i64 q5', .int .i64 q6', .int .i64 q7', .int .i64 n1', .int .i64 n2', .int .i64 n3', .int .i64 n4', .int .i64 n5', .int .i64 t1', .int .i64 t2', .int .i64 c', .int .i64 m', .int .i64 wk', .slice tb tm td, .int .i64 st'] (34))
  have zs : (w.alloc (.cells #[.int .i64 gp, .int .i64 cl, .int .i64 sq, .int .i64 kd, .int .i64 ci, .int .i64 ir, .int .i64 bt, .int .i64 si, .int .i64 q1, .int .i64 q2, .int .i64 q3, .int .i64 q4, .int .i64 q5, .int .i64 q6, .int .i64 q7, .int .i64 n1, .int .i64 n2, .int .i64 n3, .int .i64 n4, .int .i64 n5, .int .i64 t1, .int .i64 t2, .int .i64 c, .int .i64 m, .int .i64 wk, .slice ta tn tc, .int .i64 st] 34)).heap.size = w.heap.size + 1 := by simp
  rw [zs] at X2
  have HT1 := hid (ht.below B0.out)
  have HT2 := hid (ht'.below B0.out)
  clear ht ht' zs
  generalize ((w.alloc (.cells #[.int .i64 gp, .int .i64 cl, .int .i64 sq, .int .i64 kd, .int .i64 ci, .int .i64 ir, .int .i64 bt, .int .i64 si, .int .i64 q1, .int .i64 q2, .int .i64 q3, .int .i64 q4, .int .i64 q5, .int .i64 q6, .int .i64 q7, .int .i64 n1, .int .i64 n2, .int .i64 n3, .int .i64 n4, .int .i64 n5, .int .i64 t1, .int .i64 t2, .int .i64 c, .int .i64 m, .int .i64 wk, .slice ta tn tc, .int .i64 st] 34)).alloc (.cells #[.int .i64 gp', .int .i64 cl', .int .i64 sq', .int .i64 kd', .int .i64 ci', .int .i64 ir', .int .i64 bt', .int .i64 si', .int .i64 q1', .int .i64 q2', .int .i64 q3', .int .i64 q4', .int .i64 q5', .int .i64 q6', .int .i64 q7', .int .i64 n1', .int .i64 n2', .int .i64 n3', .int .i64 n4', .int .i64 n5', .int .i64 t1', .int .i64 t2', .int .i64 c', .int .i64 m', .int .i64 wk', .slice tb tm td, .int .i64 st'] 34)) = W0 at *
  have AW := hid (awake10_any W0)
  go_wp2_with fail
  with_reducible refine AW.out.mono ?_
  rintro e W1 ⟨rfl, b1⟩
  replace X1 := hid (X1.out.below b1)
  replace X2 := hid (X2.out.below b1)
  replace HT1 := hid (HT1.out.below b1)
  replace HT2 := hid (HT2.out.below b1)
  replace B0 := hid (B0.out.trans (b1.mono B0.out.size))
  clear AW b1
  have LD := X1.out.loadAt Try.underlying34 rfl sizeEnt
  have C1 := hid (ENC.out W1 HT1.out)
  go_wp2_with (refine wpList_load_at 34 rfl (.tmp 2) rfl _ _ rfl _ LD ?_)
  with_reducible refine C1.out.mono ?_
  rintro e W2 ⟨v4, rfl, g4, g4', b2⟩
  replace X1 := hid (X1.out.below b2)
  replace X2 := hid (X2.out.below b2)
  replace HT1 := hid (HT1.out.below b2)
  replace HT2 := hid (HT2.out.below b2)
  replace B0 := hid (B0.out.trans (b2.mono B0.out.size))
  have G4 := hid g4
  clear LD C1 b2 g4 g4' ENC
  have LD := X2.out.loadAt Try.underlying34 rfl sizeEnt
  have C2 := hid (ENC'.out W2 HT2.out)
  go_wp2_with (refine wpList_load_at 34 rfl (.tmp 3) rfl _ _ rfl _ LD ?_)
  with_reducible refine C2.out.mono ?_
  rintro e W4 ⟨v5, rfl, g5, g5', b4⟩
  replace X1 := hid (X1.out.below b4)
  replace X2 := hid (X2.out.below b4)
  replace HT1 := hid (HT1.out.below b4)
  replace HT2 := hid (HT2.out.below b4)
  replace B0 := hid (B0.out.trans (b4.mono B0.out.size))
  have G5 := hid g5
  have G44 : Hid (e1 = 0 → Own W1.heap.size W4 v4 BS1.length BS1) := fun h => (G4.out h).below' b4
  clear LD C2 b4 g5 g5' ENC' G4
  by_cases hz1 : e1 = 0
  case neg =>
    have tE1 : (e1 != 0) = true := by simpa using hz1
    clear hz1 F1 F2 INJ G44 G5
    go_upto_region 5 with fail
    refine wp_region_held_drew (S := fun W => Blk W w.heap.size 34 #[.int .i64 gp, .int .i64 cl, .int .i64 sq, .int .i64 kd, .int .i64 ci, .int .i64 ir, .int .i64 bt, .int .i64 si, .int .i64 q1, .int .i64 q2, .int .i64 q3, .int .i64 q4, .int .i64 q5, .int .i64 q6, .int .i64 q7, .int .i64 n1, .int .i64 n2, .int .i64 n3, .int .i64 n4, .int .i64 n5, .int .i64 t1, .int .i64 t2, .int .i64 c, .int .i64 m, .int .i64 wk, .slice ta tn tc, .int .i64 st] ∧ Blk W (w.heap.size + 1) 34 #[.int .i64 gp', .int .i64 cl', .int .i64 sq', .int .i64 kd', .int .i64 ci', .int .i64 ir', .int .i64 bt', .int .i64 si', .int .i64 q1', .int .i64 q2', .int .i64 q3', .int .i64 q4', .int .i64 q5', .int .i64 q6', .int .i64 q7', .int .i64 n1', .int .i64 n2', .int .i64 n3', .int .i64 n4', .int .i64 n5', .int .i64 t1', .int .i64 t2', .int .i64 c', .int .i64 m', .int .i64 wk', .slice tb tm td, .int .i64 st']) (by kernel_rfl) ⟨X1.out, X2.out⟩ (fun hHeld => ?_)
    have BD := hid B0.out.drew
    generalize W4.drew = WD at *
    refine wpAnyH_take (i := 0) (v := .int .i64 e1) rfl (by kernel_rfl) (by kernel_rfl) (by kernel_rfl) (fun _ _ _ h => h) (Or.inl ⟨by rfl, ?_⟩) (by assumption) ?_
    · (intro w hSw; (try dsimp only at hSw); clear hSw; go_simp)
    (try simp only [Act.put, List.getElem_toArray, List.getElem_cons_succ, List.getElem_cons_zero, List.setIfInBounds_toArray, List.set_cons_zero, List.set_cons_succ])
    refine wpAnyH_take (i := 1) (v := .bool true) rfl (by kernel_rfl) (by kernel_rfl) (by kernel_rfl) (fun _ _ _ h => h) (Or.inl ⟨by rfl, ?_⟩) (by assumption) ?_
    · (intro w hSw; (try dsimp only at hSw); clear hSw; go_simp)
    (try simp only [Act.put, List.getElem_toArray, List.getElem_cons_succ, List.getElem_cons_zero, List.setIfInBounds_toArray, List.set_cons_zero, List.set_cons_succ])
    refine wpAnyH_take (i := 2) (v := .bool true) rfl (by kernel_rfl) (by kernel_rfl) (by kernel_rfl) (fun _ _ _ h => h) (Or.inl ⟨by rfl, ?_⟩) (by assumption) ?_
    · (intro w hSw; (try dsimp only at hSw); clear hSw; go_simp)
    (try simp only [Act.put, List.getElem_toArray, List.getElem_cons_succ, List.getElem_cons_zero, List.setIfInBounds_toArray, List.set_cons_zero, List.set_cons_succ])
    refine wpAnyH_take (i := 3) (v := undef) rfl (by kernel_rfl) (by kernel_rfl) (by kernel_rfl) (fun _ _ _ h => h) (Or.inr ⟨by rfl, rfl⟩) (by assumption) ?_
    (try simp only [Act.put, List.getElem_toArray, List.getElem_cons_succ, List.getElem_cons_zero, List.setIfInBounds_toArray, List.set_cons_zero, List.set_cons_succ])
    refine wpAnyH_take (i := 4) (v := undef) rfl (by kernel_rfl) (by kernel_rfl) (by kernel_rfl) (fun _ _ _ h => h) (Or.inr ⟨by rfl, rfl⟩) (by assumption) ?_
    (try simp only [Act.put, List.getElem_toArray, List.getElem_cons_succ, List.getElem_cons_zero, List.setIfInBounds_toArray, List.set_cons_zero, List.set_cons_succ])
    refine wpAnyH_take (i := 5) (v := .bool true) rfl (by kernel_rfl) (by kernel_rfl) (by kernel_rfl) (fun _ _ _ h => h) (Or.inl ⟨by rfl, ?_⟩) (by assumption) ?_
    · (intro w hSw; (try dsimp only at hSw); clear hSw; go_simp)
    (try simp only [Act.put, List.getElem_toArray, List.getElem_cons_succ, List.getElem_cons_zero, List.setIfInBounds_toArray, List.set_cons_zero, List.set_cons_succ])
    refine wpAnyH_take (i := 6) (v := .bool true) rfl (by kernel_rfl) (by kernel_rfl) (by kernel_rfl) (fun _ _ _ h => h) (Or.inl ⟨by rfl, ?_⟩) (by assumption) ?_
    · (intro w hSw; (try dsimp only at hSw); clear hSw; go_simp)
    (try simp only [Act.put, List.getElem_toArray, List.getElem_cons_succ, List.getElem_cons_zero, List.setIfInBounds_toArray, List.set_cons_zero, List.set_cons_succ])
    refine wpAnyH_take (i := 7) (v := undef) rfl (by kernel_rfl) (by kernel_rfl) (by kernel_rfl) (fun _ _ _ h => h) (Or.inr ⟨by rfl, rfl⟩) (by assumption) ?_
    (try simp only [Act.put, List.getElem_toArray, List.getElem_cons_succ, List.getElem_cons_zero, List.setIfInBounds_toArray, List.set_cons_zero, List.set_cons_succ])
    refine wpAnyH_take (i := 8) (v := undef) rfl (by kernel_rfl) (by kernel_rfl) (by kernel_rfl) (fun _ _ _ h => h) (Or.inr ⟨by rfl, rfl⟩) (by assumption) ?_
    (try simp only [Act.put, List.getElem_toArray, List.getElem_cons_succ, List.getElem_cons_zero, List.setIfInBounds_toArray, List.set_cons_zero, List.set_cons_succ])
    refine wpAnyH_take (i := 10) (v := undef) rfl (by kernel_rfl) (by kernel_rfl) (by kernel_rfl) (fun _ _ _ h => h) (Or.inr ⟨by rfl, rfl⟩) (by assumption) ?_
    (try simp only [Act.put, List.getElem_toArray, List.getElem_cons_succ, List.getElem_cons_zero, List.setIfInBounds_toArray, List.set_cons_zero, List.set_cons_succ])
    refine wpAnyH_take (i := 11) (v := undef) rfl (by kernel_rfl) (by kernel_rfl) (by kernel_rfl) (fun _ _ _ h => h) (Or.inr ⟨by rfl, rfl⟩) (by assumption) ?_
    (try simp only [Act.put, List.getElem_toArray, List.getElem_cons_succ, List.getElem_cons_zero, List.setIfInBounds_toArray, List.set_cons_zero, List.set_cons_succ])
    refine wpAnyH_take (i := 9) (v := undef) rfl (by kernel_rfl) (by kernel_rfl) (by kernel_rfl) (fun _ _ _ h => h) (Or.inr ⟨by rfl, rfl⟩) (by assumption) ?_
    (try simp only [Act.put, List.getElem_toArray, List.getElem_cons_succ, List.getElem_cons_zero, List.setIfInBounds_toArray, List.set_cons_zero, List.set_cons_succ])
    refine wpAnyH_take (i := 12) (v := undef) rfl (by kernel_rfl) (by kernel_rfl) (by kernel_rfl) (fun _ _ _ h => h) (Or.inr ⟨by rfl, rfl⟩) (by assumption) ?_
    (try simp only [Act.put, List.getElem_toArray, List.getElem_cons_succ, List.getElem_cons_zero, List.setIfInBounds_toArray, List.set_cons_zero, List.set_cons_succ])
    refine wpAnyH_take (i := 13) (v := undef) rfl (by kernel_rfl) (by kernel_rfl) (by kernel_rfl) (fun _ _ _ h => h) (Or.inr ⟨by rfl, rfl⟩) (by assumption) ?_
    (try simp only [Act.put, List.getElem_toArray, List.getElem_cons_succ, List.getElem_cons_zero, List.setIfInBounds_toArray, List.set_cons_zero, List.set_cons_succ])
    refine wpAnyH_take (i := 14) (v := .bool true) rfl (by kernel_rfl) (by kernel_rfl) (by kernel_rfl) (fun _ _ _ h => h) (Or.inl ⟨by rfl, ?_⟩) (by assumption) ?_
    · (intro w hSw; (try dsimp only at hSw); clear hSw; go_simp)
    (try simp only [Act.put, List.getElem_toArray, List.getElem_cons_succ, List.getElem_cons_zero, List.setIfInBounds_toArray, List.set_cons_zero, List.set_cons_succ])
    refine wpAnyH_take (i := 15) (v := .bool true) rfl (by kernel_rfl) (by kernel_rfl) (by kernel_rfl) (fun _ _ _ h => h) (Or.inl ⟨by rfl, ?_⟩) (by assumption) ?_
    · (intro w hSw; (try dsimp only at hSw); clear hSw; go_simp)
    (try simp only [Act.put, List.getElem_toArray, List.getElem_cons_succ, List.getElem_cons_zero, List.setIfInBounds_toArray, List.set_cons_zero, List.set_cons_succ])
    refine wpAnyH_done (by kernel_rfl) ?_ _
    clear hHeld
    go_wp2_with fail
    go_ret
    exact ⟨rfl, BD.out⟩

  subst hz1
  by_cases hz2 : e2 = 0
  case neg =>
    have tE2 : (e2 != 0) = true := by simpa using hz2
    clear hz2 F1 F2 INJ G44 G5
    go_upto_region 5 with fail
    refine wp_region_held_drew (S := fun W => Blk W w.heap.size 34 #[.int .i64 gp, .int .i64 cl, .int .i64 sq, .int .i64 kd, .int .i64 ci, .int .i64 ir, .int .i64 bt, .int .i64 si, .int .i64 q1, .int .i64 q2, .int .i64 q3, .int .i64 q4, .int .i64 q5, .int .i64 q6, .int .i64 q7, .int .i64 n1, .int .i64 n2, .int .i64 n3, .int .i64 n4, .int .i64 n5, .int .i64 t1, .int .i64 t2, .int .i64 c, .int .i64 m, .int .i64 wk, .slice ta tn tc, .int .i64 st] ∧ Blk W (w.heap.size + 1) 34 #[.int .i64 gp', .int .i64 cl', .int .i64 sq', .int .i64 kd', .int .i64 ci', .int .i64 ir', .int .i64 bt', .int .i64 si', .int .i64 q1', .int .i64 q2', .int .i64 q3', .int .i64 q4', .int .i64 q5', .int .i64 q6', .int .i64 q7', .int .i64 n1', .int .i64 n2', .int .i64 n3', .int .i64 n4', .int .i64 n5', .int .i64 t1', .int .i64 t2', .int .i64 c', .int .i64 m', .int .i64 wk', .slice tb tm td, .int .i64 st']) (by kernel_rfl) ⟨X1.out, X2.out⟩ (fun hHeld => ?_)
    have BD := hid B0.out.drew
    generalize W4.drew = WD at *
    refine wpAnyH_take (i := 0) (v := .int .i64 0) rfl (by kernel_rfl) (by kernel_rfl) (by kernel_rfl) (fun _ _ _ h => h) (Or.inl ⟨by rfl, ?_⟩) (by assumption) ?_
    · (intro w hSw; (try dsimp only at hSw); clear hSw; go_simp)
    (try simp only [Act.put, List.getElem_toArray, List.getElem_cons_succ, List.getElem_cons_zero, List.setIfInBounds_toArray, List.set_cons_zero, List.set_cons_succ])
    refine wpAnyH_take (i := 1) (v := .bool false) rfl (by kernel_rfl) (by kernel_rfl) (by kernel_rfl) (fun _ _ _ h => h) (Or.inl ⟨by rfl, ?_⟩) (by assumption) ?_
    · (intro w hSw; (try dsimp only at hSw); clear hSw; go_simp)
    (try simp only [Act.put, List.getElem_toArray, List.getElem_cons_succ, List.getElem_cons_zero, List.setIfInBounds_toArray, List.set_cons_zero, List.set_cons_succ])
    refine wpAnyH_take (i := 2) (v := .bool false) rfl (by kernel_rfl) (by kernel_rfl) (by kernel_rfl) (fun _ _ _ h => h) (Or.inl ⟨by rfl, ?_⟩) (by assumption) ?_
    · (intro w hSw; (try dsimp only at hSw); clear hSw; go_simp)
    (try simp only [Act.put, List.getElem_toArray, List.getElem_cons_succ, List.getElem_cons_zero, List.setIfInBounds_toArray, List.set_cons_zero, List.set_cons_succ])
    refine wpAnyH_take (i := 3) (v := .int .i64 e2) rfl (by kernel_rfl) (by kernel_rfl) (by kernel_rfl) (fun _ _ _ h => h) (Or.inl ⟨by rfl, ?_⟩) (by assumption) ?_
    · (intro w hSw; (try dsimp only at hSw); clear hSw; go_simp)
    (try simp only [Act.put, List.getElem_toArray, List.getElem_cons_succ, List.getElem_cons_zero, List.setIfInBounds_toArray, List.set_cons_zero, List.set_cons_succ])
    refine wpAnyH_take (i := 4) (v := .bool true) rfl (by kernel_rfl) (by kernel_rfl) (by kernel_rfl) (fun _ _ _ h => h) (Or.inl ⟨by rfl, ?_⟩) (by assumption) ?_
    · (intro w hSw; (try dsimp only at hSw); clear hSw; go_simp)
    (try simp only [Act.put, List.getElem_toArray, List.getElem_cons_succ, List.getElem_cons_zero, List.setIfInBounds_toArray, List.set_cons_zero, List.set_cons_succ])
    refine wpAnyH_take (i := 5) (v := .bool true) rfl (by kernel_rfl) (by kernel_rfl) (by kernel_rfl) (fun _ _ _ h => h) (Or.inl ⟨by rfl, ?_⟩) (by assumption) ?_
    · (intro w hSw; (try dsimp only at hSw); clear hSw; go_simp)
    (try simp only [Act.put, List.getElem_toArray, List.getElem_cons_succ, List.getElem_cons_zero, List.setIfInBounds_toArray, List.set_cons_zero, List.set_cons_succ])
    refine wpAnyH_take (i := 6) (v := .bool true) rfl (by kernel_rfl) (by kernel_rfl) (by kernel_rfl) (fun _ _ _ h => h) (Or.inl ⟨by rfl, ?_⟩) (by assumption) ?_
    · (intro w hSw; (try dsimp only at hSw); clear hSw; go_simp)
    (try simp only [Act.put, List.getElem_toArray, List.getElem_cons_succ, List.getElem_cons_zero, List.setIfInBounds_toArray, List.set_cons_zero, List.set_cons_succ])
    refine wpAnyH_take (i := 7) (v := undef) rfl (by kernel_rfl) (by kernel_rfl) (by kernel_rfl) (fun _ _ _ h => h) (Or.inr ⟨by rfl, rfl⟩) (by assumption) ?_
    (try simp only [Act.put, List.getElem_toArray, List.getElem_cons_succ, List.getElem_cons_zero, List.setIfInBounds_toArray, List.set_cons_zero, List.set_cons_succ])
    refine wpAnyH_take (i := 8) (v := undef) rfl (by kernel_rfl) (by kernel_rfl) (by kernel_rfl) (fun _ _ _ h => h) (Or.inr ⟨by rfl, rfl⟩) (by assumption) ?_
    (try simp only [Act.put, List.getElem_toArray, List.getElem_cons_succ, List.getElem_cons_zero, List.setIfInBounds_toArray, List.set_cons_zero, List.set_cons_succ])
    refine wpAnyH_take (i := 10) (v := undef) rfl (by kernel_rfl) (by kernel_rfl) (by kernel_rfl) (fun _ _ _ h => h) (Or.inr ⟨by rfl, rfl⟩) (by assumption) ?_
    (try simp only [Act.put, List.getElem_toArray, List.getElem_cons_succ, List.getElem_cons_zero, List.setIfInBounds_toArray, List.set_cons_zero, List.set_cons_succ])
    refine wpAnyH_take (i := 11) (v := undef) rfl (by kernel_rfl) (by kernel_rfl) (by kernel_rfl) (fun _ _ _ h => h) (Or.inr ⟨by rfl, rfl⟩) (by assumption) ?_
    (try simp only [Act.put, List.getElem_toArray, List.getElem_cons_succ, List.getElem_cons_zero, List.setIfInBounds_toArray, List.set_cons_zero, List.set_cons_succ])
    refine wpAnyH_take (i := 9) (v := undef) rfl (by kernel_rfl) (by kernel_rfl) (by kernel_rfl) (fun _ _ _ h => h) (Or.inr ⟨by rfl, rfl⟩) (by assumption) ?_
    (try simp only [Act.put, List.getElem_toArray, List.getElem_cons_succ, List.getElem_cons_zero, List.setIfInBounds_toArray, List.set_cons_zero, List.set_cons_succ])
    refine wpAnyH_take (i := 12) (v := undef) rfl (by kernel_rfl) (by kernel_rfl) (by kernel_rfl) (fun _ _ _ h => h) (Or.inr ⟨by rfl, rfl⟩) (by assumption) ?_
    (try simp only [Act.put, List.getElem_toArray, List.getElem_cons_succ, List.getElem_cons_zero, List.setIfInBounds_toArray, List.set_cons_zero, List.set_cons_succ])
    refine wpAnyH_take (i := 13) (v := undef) rfl (by kernel_rfl) (by kernel_rfl) (by kernel_rfl) (fun _ _ _ h => h) (Or.inr ⟨by rfl, rfl⟩) (by assumption) ?_
    (try simp only [Act.put, List.getElem_toArray, List.getElem_cons_succ, List.getElem_cons_zero, List.setIfInBounds_toArray, List.set_cons_zero, List.set_cons_succ])
    refine wpAnyH_take (i := 14) (v := .bool true) rfl (by kernel_rfl) (by kernel_rfl) (by kernel_rfl) (fun _ _ _ h => h) (Or.inl ⟨by rfl, ?_⟩) (by assumption) ?_
    · (intro w hSw; (try dsimp only at hSw); clear hSw; go_simp)
    (try simp only [Act.put, List.getElem_toArray, List.getElem_cons_succ, List.getElem_cons_zero, List.setIfInBounds_toArray, List.set_cons_zero, List.set_cons_succ])
    refine wpAnyH_take (i := 15) (v := .bool true) rfl (by kernel_rfl) (by kernel_rfl) (by kernel_rfl) (fun _ _ _ h => h) (Or.inl ⟨by rfl, ?_⟩) (by assumption) ?_
    · (intro w hSw; (try dsimp only at hSw); clear hSw; go_simp)
    (try simp only [Act.put, List.getElem_toArray, List.getElem_cons_succ, List.getElem_cons_zero, List.setIfInBounds_toArray, List.set_cons_zero, List.set_cons_succ])
    refine wpAnyH_done (by kernel_rfl) ?_ _
    clear hHeld
    go_wp2_with fail
    go_ret
    exact ⟨rfl, BD.out⟩

  subst hz2
  have O4 := G44.out rfl
  have O5 := G5.out rfl
  obtain ⟨a4, c4, rfl⟩ := O4.form
  obtain ⟨a5, c5, rfl⟩ := O5.form
  have HB1 := hid O4.holds
  have HB2 := hid O5.holds
  clear G44 G5 O4 O5
  generalize hl4 : BS1.length = z4 at *
  generalize hl5 : BS2.length = z5 at *
  by_cases hBS : BS1 = BS2
  · subst hBS
    obtain ⟨rfl, rfl, rfl, rfl, rfl, rfl, rfl, rfl, rfl, rfl, rfl, rfl, rfl, rfl, rfl, rfl, rfl, rfl, rfl, rfl, rfl, rfl, rfl, rfl, rfl, rfl, rfl⟩ := INJ.out (by rw [htl]; exact F1.out) (by rw [htl']; exact F2.out) rfl
    obtain rfl : tn = tm := htl.symm.trans htl'
    have SAM := hid (fun W (H : HoldsN W ta tn tc tk) (H2 : HoldsN W tb tn td tk) => sent_any gp cl sq kd ci ir bt si q1 q2 q3 q4 q5 q6 q7 n1 n2 n3 n4 n5 t1 t2 c m wk st ta tb tn tc td tk W H H2 (by omega))
    clear INJ F1 F2 Q1 Q2 htl htl' hl4 hl5
    go_upto_region 5 with fail
    refine wp_region_held_drew (S := fun W => Blk W w.heap.size 34 #[.int .i64 gp, .int .i64 cl, .int .i64 sq, .int .i64 kd, .int .i64 ci, .int .i64 ir, .int .i64 bt, .int .i64 si, .int .i64 q1, .int .i64 q2, .int .i64 q3, .int .i64 q4, .int .i64 q5, .int .i64 q6, .int .i64 q7, .int .i64 n1, .int .i64 n2, .int .i64 n3, .int .i64 n4, .int .i64 n5, .int .i64 t1, .int .i64 t2, .int .i64 c, .int .i64 m, .int .i64 wk, .slice ta tn tc, .int .i64 st] ∧ Blk W (w.heap.size + 1) 34 #[.int .i64 gp, .int .i64 cl, .int .i64 sq, .int .i64 kd, .int .i64 ci, .int .i64 ir, .int .i64 bt, .int .i64 si, .int .i64 q1, .int .i64 q2, .int .i64 q3, .int .i64 q4, .int .i64 q5, .int .i64 q6, .int .i64 q7, .int .i64 n1, .int .i64 n2, .int .i64 n3, .int .i64 n4, .int .i64 n5, .int .i64 t1, .int .i64 t2, .int .i64 c, .int .i64 m, .int .i64 wk, .slice tb tn td, .int .i64 st]) (by kernel_rfl) ⟨X1.out, X2.out⟩ (fun hHeld => ?_)
    have BD := hid B0.out.drew
    have hc1 := (HB1.out.below (Below.drew (Below.refl _ _)))
    have hc2 := (HB2.out.below (Below.drew (Below.refl _ _)))
    have E1 := hid (HT1.out.below (Below.drew (Below.refl W4.heap.size W4)))
    have E2 := hid (HT2.out.below (Below.drew (Below.refl W4.heap.size W4)))
    have Y : Hid (Blk W4.drew w.heap.size 34 #[.int .i64 gp, .int .i64 cl, .int .i64 sq, .int .i64 kd, .int .i64 ci, .int .i64 ir, .int .i64 bt, .int .i64 si, .int .i64 q1, .int .i64 q2, .int .i64 q3, .int .i64 q4, .int .i64 q5, .int .i64 q6, .int .i64 q7, .int .i64 n1, .int .i64 n2, .int .i64 n3, .int .i64 n4, .int .i64 n5, .int .i64 t1, .int .i64 t2, .int .i64 c, .int .i64 m, .int .i64 wk, .slice ta tn tc, .int .i64 st] ∧ Blk W4.drew (w.heap.size + 1) 34 #[.int .i64 gp, .int .i64 cl, .int .i64 sq, .int .i64 kd, .int .i64 ci, .int .i64 ir, .int .i64 bt, .int .i64 si, .int .i64 q1, .int .i64 q2, .int .i64 q3, .int .i64 q4, .int .i64 q5, .int .i64 q6, .int .i64 q7, .int .i64 n1, .int .i64 n2, .int .i64 n3, .int .i64 n4, .int .i64 n5, .int .i64 t1, .int .i64 t2, .int .i64 c, .int .i64 m, .int .i64 wk, .slice tb tn td, .int .i64 st]) := hHeld
    have CB := hid (bytes_v _ _ _ _ _ _ _ _ true (by simp) W4.drew hc1 hc2)
    have CS := hid (SAM.out W4.drew E1.out E2.out)
    clear hc1 hc2 HB1 HB2 HT1 HT2 X1 X2 SAM B0 E1 E2
    generalize W4.drew = WD at *
    refine wpAnyH_take (i := 0) (v := .int .i64 0) rfl (by kernel_rfl) (by kernel_rfl) (by kernel_rfl) (fun _ _ _ h => h) (Or.inl ⟨by rfl, ?_⟩) (by assumption) ?_
    · (intro w hSw; (try dsimp only at hSw); clear hSw; go_simp)
    (try simp only [Act.put, List.getElem_toArray, List.getElem_cons_succ, List.getElem_cons_zero, List.setIfInBounds_toArray, List.set_cons_zero, List.set_cons_succ])
    refine wpAnyH_take (i := 1) (v := .bool false) rfl (by kernel_rfl) (by kernel_rfl) (by kernel_rfl) (fun _ _ _ h => h) (Or.inl ⟨by rfl, ?_⟩) (by assumption) ?_
    · (intro w hSw; (try dsimp only at hSw); clear hSw; go_simp)
    (try simp only [Act.put, List.getElem_toArray, List.getElem_cons_succ, List.getElem_cons_zero, List.setIfInBounds_toArray, List.set_cons_zero, List.set_cons_succ])
    refine wpAnyH_take (i := 2) (v := .bool false) rfl (by kernel_rfl) (by kernel_rfl) (by kernel_rfl) (fun _ _ _ h => h) (Or.inl ⟨by rfl, ?_⟩) (by assumption) ?_
    · (intro w hSw; (try dsimp only at hSw); clear hSw; go_simp)
    (try simp only [Act.put, List.getElem_toArray, List.getElem_cons_succ, List.getElem_cons_zero, List.setIfInBounds_toArray, List.set_cons_zero, List.set_cons_succ])
    refine wpAnyH_take (i := 3) (v := .int .i64 0) rfl (by kernel_rfl) (by kernel_rfl) (by kernel_rfl) (fun _ _ _ h => h) (Or.inl ⟨by rfl, ?_⟩) (by assumption) ?_
    · (intro w hSw; (try dsimp only at hSw); clear hSw; go_simp)
    (try simp only [Act.put, List.getElem_toArray, List.getElem_cons_succ, List.getElem_cons_zero, List.setIfInBounds_toArray, List.set_cons_zero, List.set_cons_succ])
    refine wpAnyH_take (i := 4) (v := .bool false) rfl (by kernel_rfl) (by kernel_rfl) (by kernel_rfl) (fun _ _ _ h => h) (Or.inl ⟨by rfl, ?_⟩) (by assumption) ?_
    · (intro w hSw; (try dsimp only at hSw); clear hSw; go_simp)
    (try simp only [Act.put, List.getElem_toArray, List.getElem_cons_succ, List.getElem_cons_zero, List.setIfInBounds_toArray, List.set_cons_zero, List.set_cons_succ])
    refine wpAnyH_take (i := 5) (v := .bool false) rfl (by kernel_rfl) (by kernel_rfl) (by kernel_rfl) (fun _ _ _ h => h) (Or.inl ⟨by rfl, ?_⟩) (by assumption) ?_
    · (intro w hSw; (try dsimp only at hSw); clear hSw; go_simp)
    (try simp only [Act.put, List.getElem_toArray, List.getElem_cons_succ, List.getElem_cons_zero, List.setIfInBounds_toArray, List.set_cons_zero, List.set_cons_succ])
    refine wpAnyH_take (i := 6) (v := .bool false) rfl (by kernel_rfl) (by kernel_rfl) (by kernel_rfl) (fun _ _ _ h => h) (Or.inl ⟨by rfl, ?_⟩) (by assumption) ?_
    · (intro w hSw; (try dsimp only at hSw); clear hSw; go_simp)
    (try simp only [Act.put, List.getElem_toArray, List.getElem_cons_succ, List.getElem_cons_zero, List.setIfInBounds_toArray, List.set_cons_zero, List.set_cons_succ])
    refine wpAnyH_take (i := 7) (v := .slice a4 z4 c4) rfl (by kernel_rfl) (by kernel_rfl) (by kernel_rfl) (fun _ _ _ h => h) (Or.inl ⟨by rfl, ?_⟩) (by assumption) ?_
    · (intro w hSw; (try dsimp only at hSw); clear hSw; go_simp)
    (try simp only [Act.put, List.getElem_toArray, List.getElem_cons_succ, List.getElem_cons_zero, List.setIfInBounds_toArray, List.set_cons_zero, List.set_cons_succ])
    refine wpAnyH_take (i := 8) (v := .slice a5 z5 c5) rfl (by kernel_rfl) (by kernel_rfl) (by kernel_rfl) (fun _ _ _ h => h) (Or.inl ⟨by rfl, ?_⟩) (by assumption) ?_
    · (intro w hSw; (try dsimp only at hSw); clear hSw; go_simp)
    (try simp only [Act.put, List.getElem_toArray, List.getElem_cons_succ, List.getElem_cons_zero, List.setIfInBounds_toArray, List.set_cons_zero, List.set_cons_succ])
    refine wpAnyH_take (i := 10) (v := .agg #[.int .i64 gp, .int .i64 cl, .int .i64 sq, .int .i64 kd, .int .i64 ci, .int .i64 ir, .int .i64 bt, .int .i64 si, .int .i64 q1, .int .i64 q2, .int .i64 q3, .int .i64 q4, .int .i64 q5, .int .i64 q6, .int .i64 q7, .int .i64 n1, .int .i64 n2, .int .i64 n3, .int .i64 n4, .int .i64 n5, .int .i64 t1, .int .i64 t2, .int .i64 c, .int .i64 m, .int .i64 wk, .slice ta tn tc, .int .i64 st]) rfl (by kernel_rfl) (by kernel_rfl) (by kernel_rfl) (fun _ _ _ h => h) (yieldsIf_load_mid (by rfl) 34 (.tmp 2) rfl w.heap.size 0 rfl (#[.int .i64 gp, .int .i64 cl, .int .i64 sq, .int .i64 kd, .int .i64 ci, .int .i64 ir, .int .i64 bt, .int .i64 si, .int .i64 q1, .int .i64 q2, .int .i64 q3, .int .i64 q4, .int .i64 q5, .int .i64 q6, .int .i64 q7, .int .i64 n1, .int .i64 n2, .int .i64 n3, .int .i64 n4, .int .i64 n5, .int .i64 t1, .int .i64 t2, .int .i64 c, .int .i64 m, .int .i64 wk, .slice ta tn tc, .int .i64 st] : Array Value).toList _ (fun W hW => hW.1.range) Try.underlying34 rfl sizeEnt) (by assumption) ?_
    (try simp only [Act.put, List.getElem_toArray, List.getElem_cons_succ, List.getElem_cons_zero, List.setIfInBounds_toArray, List.set_cons_zero, List.set_cons_succ])
    refine wpAnyH_take (i := 11) (v := .agg #[.int .i64 gp, .int .i64 cl, .int .i64 sq, .int .i64 kd, .int .i64 ci, .int .i64 ir, .int .i64 bt, .int .i64 si, .int .i64 q1, .int .i64 q2, .int .i64 q3, .int .i64 q4, .int .i64 q5, .int .i64 q6, .int .i64 q7, .int .i64 n1, .int .i64 n2, .int .i64 n3, .int .i64 n4, .int .i64 n5, .int .i64 t1, .int .i64 t2, .int .i64 c, .int .i64 m, .int .i64 wk, .slice tb tn td, .int .i64 st]) rfl (by kernel_rfl) (by kernel_rfl) (by kernel_rfl) (fun _ _ _ h => h) (yieldsIf_load_mid (by rfl) 34 (.tmp 3) rfl (w.heap.size + 1) 0 rfl (#[.int .i64 gp, .int .i64 cl, .int .i64 sq, .int .i64 kd, .int .i64 ci, .int .i64 ir, .int .i64 bt, .int .i64 si, .int .i64 q1, .int .i64 q2, .int .i64 q3, .int .i64 q4, .int .i64 q5, .int .i64 q6, .int .i64 q7, .int .i64 n1, .int .i64 n2, .int .i64 n3, .int .i64 n4, .int .i64 n5, .int .i64 t1, .int .i64 t2, .int .i64 c, .int .i64 m, .int .i64 wk, .slice tb tn td, .int .i64 st] : Array Value).toList _ (fun W hW => hW.2.range) Try.underlying34 rfl sizeEnt) (by assumption) ?_
    (try simp only [Act.put, List.getElem_toArray, List.getElem_cons_succ, List.getElem_cons_zero, List.setIfInBounds_toArray, List.set_cons_zero, List.set_cons_succ])
    refine wpAnyH_ready (rs := [9]) (by kernel_rfl) (by simp) ?_
    refine AllReadyH.cons rfl (fun K hK => ?_) AllReadyH.nil
    go_simp
    with_reducible refine CB.out.mono ?_
    rintro e WE ⟨rfl, rfl⟩
    refine hK.out _ _ Y.out (fun hHeld => ?_)
    clear hK K CB
    (try simp only [Act.put, List.getElem_toArray, List.getElem_cons_succ, List.getElem_cons_zero, List.setIfInBounds_toArray, List.set_cons_zero, List.set_cons_succ])
    refine wpAnyH_ready (rs := [12]) (by kernel_rfl) (by simp) ?_
    refine AllReadyH.cons rfl (fun K hK => ?_) AllReadyH.nil
    go_simp
    with_reducible refine CS.out.mono ?_
    rintro e WF ⟨rfl, bf⟩
    have BF := hid (BD.out.trans (bf.mono BD.out.size))
    refine hK.out _ _ ⟨Y.out.1.below bf, Y.out.2.below bf⟩ (fun hHeld => ?_)
    clear hK K CS bf
    (try simp only [Act.put, List.getElem_toArray, List.getElem_cons_succ, List.getElem_cons_zero, List.setIfInBounds_toArray, List.set_cons_zero, List.set_cons_succ])
    refine wpAnyH_take (i := 13) (v := .bool true) rfl (by kernel_rfl) (by kernel_rfl) (by kernel_rfl) (fun _ _ _ h => h) (Or.inl ⟨by rfl, ?_⟩) (by assumption) ?_
    · (intro w hSw; (try dsimp only at hSw); clear hSw; go_simp)
    (try simp only [Act.put, List.getElem_toArray, List.getElem_cons_succ, List.getElem_cons_zero, List.setIfInBounds_toArray, List.set_cons_zero, List.set_cons_succ])
    refine wpAnyH_take (i := 14) (v := .bool true) rfl (by kernel_rfl) (by kernel_rfl) (by kernel_rfl) (fun _ _ _ h => h) (Or.inl ⟨by rfl, ?_⟩) (by assumption) ?_
    · (intro w hSw; (try dsimp only at hSw); clear hSw; go_simp)
    (try simp only [Act.put, List.getElem_toArray, List.getElem_cons_succ, List.getElem_cons_zero, List.setIfInBounds_toArray, List.set_cons_zero, List.set_cons_succ])
    refine wpAnyH_take (i := 15) (v := .bool true) rfl (by kernel_rfl) (by kernel_rfl) (by kernel_rfl) (fun _ _ _ h => h) (Or.inl ⟨by rfl, ?_⟩) (by assumption) ?_
    · (intro w hSw; (try dsimp only at hSw); clear hSw; go_simp)
    (try simp only [Act.put, List.getElem_toArray, List.getElem_cons_succ, List.getElem_cons_zero, List.setIfInBounds_toArray, List.set_cons_zero, List.set_cons_succ])
    refine wpAnyH_done (by kernel_rfl) ?_ _
    clear hHeld
    go_wp2_with fail
    go_ret
    exact ⟨rfl, BF.out⟩

  · have SAM := hid (fun W (H : HoldsN W ta tn tc tk) (H2 : HoldsN W tb tm td tk') => sent_no gp cl sq kd ci ir bt si q1 q2 q3 q4 q5 q6 q7 n1 n2 n3 n4 n5 t1 t2 c m wk st gp' cl' sq' kd' ci' ir' bt' si' q1' q2' q3' q4' q5' q6' q7' n1' n2' n3' n4' n5' t1' t2' c' m' wk' st' ta tb tn tm tc td tk tk' W H H2 (by omega) (by
      rintro ⟨rfl, rfl, rfl, rfl, rfl, rfl, rfl, rfl, rfl, rfl, rfl, rfl, rfl, rfl, rfl, rfl, rfl, rfl, rfl, rfl, rfl, rfl, rfl, rfl, rfl, rfl, rfl⟩
      exact hBS (Q1.out.symm.trans Q2.out)))
    clear INJ F1 F2 Q1 Q2 htl htl' hl4 hl5
    go_upto_region 5 with fail
    refine wp_region_held_drew (S := fun W => Blk W w.heap.size 34 #[.int .i64 gp, .int .i64 cl, .int .i64 sq, .int .i64 kd, .int .i64 ci, .int .i64 ir, .int .i64 bt, .int .i64 si, .int .i64 q1, .int .i64 q2, .int .i64 q3, .int .i64 q4, .int .i64 q5, .int .i64 q6, .int .i64 q7, .int .i64 n1, .int .i64 n2, .int .i64 n3, .int .i64 n4, .int .i64 n5, .int .i64 t1, .int .i64 t2, .int .i64 c, .int .i64 m, .int .i64 wk, .slice ta tn tc, .int .i64 st] ∧ Blk W (w.heap.size + 1) 34 #[.int .i64 gp', .int .i64 cl', .int .i64 sq', .int .i64 kd', .int .i64 ci', .int .i64 ir', .int .i64 bt', .int .i64 si', .int .i64 q1', .int .i64 q2', .int .i64 q3', .int .i64 q4', .int .i64 q5', .int .i64 q6', .int .i64 q7', .int .i64 n1', .int .i64 n2', .int .i64 n3', .int .i64 n4', .int .i64 n5', .int .i64 t1', .int .i64 t2', .int .i64 c', .int .i64 m', .int .i64 wk', .slice tb tm td, .int .i64 st']) (by kernel_rfl) ⟨X1.out, X2.out⟩ (fun hHeld => ?_)
    have BD := hid B0.out.drew
    have hc1 := (HB1.out.below (Below.drew (Below.refl _ _)))
    have hc2 := (HB2.out.below (Below.drew (Below.refl _ _)))
    have E1 := hid (HT1.out.below (Below.drew (Below.refl W4.heap.size W4)))
    have E2 := hid (HT2.out.below (Below.drew (Below.refl W4.heap.size W4)))
    have Y : Hid (Blk W4.drew w.heap.size 34 #[.int .i64 gp, .int .i64 cl, .int .i64 sq, .int .i64 kd, .int .i64 ci, .int .i64 ir, .int .i64 bt, .int .i64 si, .int .i64 q1, .int .i64 q2, .int .i64 q3, .int .i64 q4, .int .i64 q5, .int .i64 q6, .int .i64 q7, .int .i64 n1, .int .i64 n2, .int .i64 n3, .int .i64 n4, .int .i64 n5, .int .i64 t1, .int .i64 t2, .int .i64 c, .int .i64 m, .int .i64 wk, .slice ta tn tc, .int .i64 st] ∧ Blk W4.drew (w.heap.size + 1) 34 #[.int .i64 gp', .int .i64 cl', .int .i64 sq', .int .i64 kd', .int .i64 ci', .int .i64 ir', .int .i64 bt', .int .i64 si', .int .i64 q1', .int .i64 q2', .int .i64 q3', .int .i64 q4', .int .i64 q5', .int .i64 q6', .int .i64 q7', .int .i64 n1', .int .i64 n2', .int .i64 n3', .int .i64 n4', .int .i64 n5', .int .i64 t1', .int .i64 t2', .int .i64 c', .int .i64 m', .int .i64 wk', .slice tb tm td, .int .i64 st']) := hHeld
    have CB := hid (bytes_v _ _ _ _ _ _ _ _ false (by simpa using hBS) W4.drew hc1 hc2)
    have CS := hid (SAM.out W4.drew E1.out E2.out)
    clear hc1 hc2 HB1 HB2 HT1 HT2 X1 X2 SAM B0 E1 E2
    generalize W4.drew = WD at *
    refine wpAnyH_take (i := 0) (v := .int .i64 0) rfl (by kernel_rfl) (by kernel_rfl) (by kernel_rfl) (fun _ _ _ h => h) (Or.inl ⟨by rfl, ?_⟩) (by assumption) ?_
    · (intro w hSw; (try dsimp only at hSw); clear hSw; go_simp)
    (try simp only [Act.put, List.getElem_toArray, List.getElem_cons_succ, List.getElem_cons_zero, List.setIfInBounds_toArray, List.set_cons_zero, List.set_cons_succ])
    refine wpAnyH_take (i := 1) (v := .bool false) rfl (by kernel_rfl) (by kernel_rfl) (by kernel_rfl) (fun _ _ _ h => h) (Or.inl ⟨by rfl, ?_⟩) (by assumption) ?_
    · (intro w hSw; (try dsimp only at hSw); clear hSw; go_simp)
    (try simp only [Act.put, List.getElem_toArray, List.getElem_cons_succ, List.getElem_cons_zero, List.setIfInBounds_toArray, List.set_cons_zero, List.set_cons_succ])
    refine wpAnyH_take (i := 2) (v := .bool false) rfl (by kernel_rfl) (by kernel_rfl) (by kernel_rfl) (fun _ _ _ h => h) (Or.inl ⟨by rfl, ?_⟩) (by assumption) ?_
    · (intro w hSw; (try dsimp only at hSw); clear hSw; go_simp)
    (try simp only [Act.put, List.getElem_toArray, List.getElem_cons_succ, List.getElem_cons_zero, List.setIfInBounds_toArray, List.set_cons_zero, List.set_cons_succ])
    refine wpAnyH_take (i := 3) (v := .int .i64 0) rfl (by kernel_rfl) (by kernel_rfl) (by kernel_rfl) (fun _ _ _ h => h) (Or.inl ⟨by rfl, ?_⟩) (by assumption) ?_
    · (intro w hSw; (try dsimp only at hSw); clear hSw; go_simp)
    (try simp only [Act.put, List.getElem_toArray, List.getElem_cons_succ, List.getElem_cons_zero, List.setIfInBounds_toArray, List.set_cons_zero, List.set_cons_succ])
    refine wpAnyH_take (i := 4) (v := .bool false) rfl (by kernel_rfl) (by kernel_rfl) (by kernel_rfl) (fun _ _ _ h => h) (Or.inl ⟨by rfl, ?_⟩) (by assumption) ?_
    · (intro w hSw; (try dsimp only at hSw); clear hSw; go_simp)
    (try simp only [Act.put, List.getElem_toArray, List.getElem_cons_succ, List.getElem_cons_zero, List.setIfInBounds_toArray, List.set_cons_zero, List.set_cons_succ])
    refine wpAnyH_take (i := 5) (v := .bool false) rfl (by kernel_rfl) (by kernel_rfl) (by kernel_rfl) (fun _ _ _ h => h) (Or.inl ⟨by rfl, ?_⟩) (by assumption) ?_
    · (intro w hSw; (try dsimp only at hSw); clear hSw; go_simp)
    (try simp only [Act.put, List.getElem_toArray, List.getElem_cons_succ, List.getElem_cons_zero, List.setIfInBounds_toArray, List.set_cons_zero, List.set_cons_succ])
    refine wpAnyH_take (i := 6) (v := .bool false) rfl (by kernel_rfl) (by kernel_rfl) (by kernel_rfl) (fun _ _ _ h => h) (Or.inl ⟨by rfl, ?_⟩) (by assumption) ?_
    · (intro w hSw; (try dsimp only at hSw); clear hSw; go_simp)
    (try simp only [Act.put, List.getElem_toArray, List.getElem_cons_succ, List.getElem_cons_zero, List.setIfInBounds_toArray, List.set_cons_zero, List.set_cons_succ])
    refine wpAnyH_take (i := 7) (v := .slice a4 z4 c4) rfl (by kernel_rfl) (by kernel_rfl) (by kernel_rfl) (fun _ _ _ h => h) (Or.inl ⟨by rfl, ?_⟩) (by assumption) ?_
    · (intro w hSw; (try dsimp only at hSw); clear hSw; go_simp)
    (try simp only [Act.put, List.getElem_toArray, List.getElem_cons_succ, List.getElem_cons_zero, List.setIfInBounds_toArray, List.set_cons_zero, List.set_cons_succ])
    refine wpAnyH_take (i := 8) (v := .slice a5 z5 c5) rfl (by kernel_rfl) (by kernel_rfl) (by kernel_rfl) (fun _ _ _ h => h) (Or.inl ⟨by rfl, ?_⟩) (by assumption) ?_
    · (intro w hSw; (try dsimp only at hSw); clear hSw; go_simp)
    (try simp only [Act.put, List.getElem_toArray, List.getElem_cons_succ, List.getElem_cons_zero, List.setIfInBounds_toArray, List.set_cons_zero, List.set_cons_succ])
    refine wpAnyH_take (i := 10) (v := .agg #[.int .i64 gp, .int .i64 cl, .int .i64 sq, .int .i64 kd, .int .i64 ci, .int .i64 ir, .int .i64 bt, .int .i64 si, .int .i64 q1, .int .i64 q2, .int .i64 q3, .int .i64 q4, .int .i64 q5, .int .i64 q6, .int .i64 q7, .int .i64 n1, .int .i64 n2, .int .i64 n3, .int .i64 n4, .int .i64 n5, .int .i64 t1, .int .i64 t2, .int .i64 c, .int .i64 m, .int .i64 wk, .slice ta tn tc, .int .i64 st]) rfl (by kernel_rfl) (by kernel_rfl) (by kernel_rfl) (fun _ _ _ h => h) (yieldsIf_load_mid (by rfl) 34 (.tmp 2) rfl w.heap.size 0 rfl (#[.int .i64 gp, .int .i64 cl, .int .i64 sq, .int .i64 kd, .int .i64 ci, .int .i64 ir, .int .i64 bt, .int .i64 si, .int .i64 q1, .int .i64 q2, .int .i64 q3, .int .i64 q4, .int .i64 q5, .int .i64 q6, .int .i64 q7, .int .i64 n1, .int .i64 n2, .int .i64 n3, .int .i64 n4, .int .i64 n5, .int .i64 t1, .int .i64 t2, .int .i64 c, .int .i64 m, .int .i64 wk, .slice ta tn tc, .int .i64 st] : Array Value).toList _ (fun W hW => hW.1.range) Try.underlying34 rfl sizeEnt) (by assumption) ?_
    (try simp only [Act.put, List.getElem_toArray, List.getElem_cons_succ, List.getElem_cons_zero, List.setIfInBounds_toArray, List.set_cons_zero, List.set_cons_succ])
    refine wpAnyH_take (i := 11) (v := .agg #[.int .i64 gp', .int .i64 cl', .int .i64 sq', .int .i64 kd', .int .i64 ci', .int .i64 ir', .int .i64 bt', .int .i64 si', .int .i64 q1', .int .i64 q2', .int .i64 q3', .int .i64 q4', .int .i64 q5', .int .i64 q6', .int .i64 q7', .int .i64 n1', .int .i64 n2', .int .i64 n3', .int .i64 n4', .int .i64 n5', .int .i64 t1', .int .i64 t2', .int .i64 c', .int .i64 m', .int .i64 wk', .slice tb tm td, .int .i64 st']) rfl (by kernel_rfl) (by kernel_rfl) (by kernel_rfl) (fun _ _ _ h => h) (yieldsIf_load_mid (by rfl) 34 (.tmp 3) rfl (w.heap.size + 1) 0 rfl (#[.int .i64 gp', .int .i64 cl', .int .i64 sq', .int .i64 kd', .int .i64 ci', .int .i64 ir', .int .i64 bt', .int .i64 si', .int .i64 q1', .int .i64 q2', .int .i64 q3', .int .i64 q4', .int .i64 q5', .int .i64 q6', .int .i64 q7', .int .i64 n1', .int .i64 n2', .int .i64 n3', .int .i64 n4', .int .i64 n5', .int .i64 t1', .int .i64 t2', .int .i64 c', .int .i64 m', .int .i64 wk', .slice tb tm td, .int .i64 st'] : Array Value).toList _ (fun W hW => hW.2.range) Try.underlying34 rfl sizeEnt) (by assumption) ?_
    (try simp only [Act.put, List.getElem_toArray, List.getElem_cons_succ, List.getElem_cons_zero, List.setIfInBounds_toArray, List.set_cons_zero, List.set_cons_succ])
    refine wpAnyH_ready (rs := [9]) (by kernel_rfl) (by simp) ?_
    refine AllReadyH.cons rfl (fun K hK => ?_) AllReadyH.nil
    go_simp
    with_reducible refine CB.out.mono ?_
    rintro e WE ⟨rfl, rfl⟩
    refine hK.out _ _ Y.out (fun hHeld => ?_)
    clear hK K CB
    (try simp only [Act.put, List.getElem_toArray, List.getElem_cons_succ, List.getElem_cons_zero, List.setIfInBounds_toArray, List.set_cons_zero, List.set_cons_succ])
    refine wpAnyH_ready (rs := [12]) (by kernel_rfl) (by simp) ?_
    refine AllReadyH.cons rfl (fun K hK => ?_) AllReadyH.nil
    go_simp
    with_reducible refine CS.out.mono ?_
    rintro e WF ⟨rfl, bf⟩
    have BF := hid (BD.out.trans (bf.mono BD.out.size))
    refine hK.out _ _ ⟨Y.out.1.below bf, Y.out.2.below bf⟩ (fun hHeld => ?_)
    clear hK K CS bf
    (try simp only [Act.put, List.getElem_toArray, List.getElem_cons_succ, List.getElem_cons_zero, List.setIfInBounds_toArray, List.set_cons_zero, List.set_cons_succ])
    refine wpAnyH_take (i := 13) (v := .bool true) rfl (by kernel_rfl) (by kernel_rfl) (by kernel_rfl) (fun _ _ _ h => h) (Or.inl ⟨by rfl, ?_⟩) (by assumption) ?_
    · (intro w hSw; (try dsimp only at hSw); clear hSw; go_simp)
    (try simp only [Act.put, List.getElem_toArray, List.getElem_cons_succ, List.getElem_cons_zero, List.setIfInBounds_toArray, List.set_cons_zero, List.set_cons_succ])
    refine wpAnyH_take (i := 14) (v := .bool true) rfl (by kernel_rfl) (by kernel_rfl) (by kernel_rfl) (fun _ _ _ h => h) (Or.inl ⟨by rfl, ?_⟩) (by assumption) ?_
    · (intro w hSw; (try dsimp only at hSw); clear hSw; go_simp)
    (try simp only [Act.put, List.getElem_toArray, List.getElem_cons_succ, List.getElem_cons_zero, List.setIfInBounds_toArray, List.set_cons_zero, List.set_cons_succ])
    refine wpAnyH_take (i := 15) (v := .bool true) rfl (by kernel_rfl) (by kernel_rfl) (by kernel_rfl) (fun _ _ _ h => h) (Or.inl ⟨by rfl, ?_⟩) (by assumption) ?_
    · (intro w hSw; (try dsimp only at hSw); clear hSw; go_simp)
    (try simp only [Act.put, List.getElem_toArray, List.getElem_cons_succ, List.getElem_cons_zero, List.setIfInBounds_toArray, List.set_cons_zero, List.set_cons_succ])
    refine wpAnyH_done (by kernel_rfl) ?_ _
    clear hHeld
    go_wp2_with fail
    go_ret
    exact ⟨rfl, BF.out⟩

theorem walk (gp0 cl0 sq0 kd0 ci0 ir0 bt0 si0 : Int) (q0 : Q7) (n0 : N5) (t0 : T7) (gp1 cl1 sq1 kd1 ci1 ir1 bt1 si1 : Int) (q1 : Q7) (n1 : N5) (t1 : T7) (w : World) (ht0 : HoldsN w t0.sa t0.sl t0.sc t0.tk) (hk0 : (I64 gp0 ∧ I64 cl0 ∧ I64 sq0) ∧ (I64 kd0 ∧ I64 ci0 ∧ I64 ir0 ∧ I64 bt0 ∧ I64 si0) ∧ q0.ok ∧ n0.ok ∧ t0.ok) (hs0 : t0.sc * 8 ≤ 140737488351232) (ht1 : HoldsN w t1.sa t1.sl t1.sc t1.tk) (hk1 : (I64 gp1 ∧ I64 cl1 ∧ I64 sq1) ∧ (I64 kd1 ∧ I64 ci1 ∧ I64 ir1 ∧ I64 bt1 ∧ I64 si1) ∧ q1.ok ∧ n1.ok ∧ t1.ok) (hs1 : t1.sc * 8 ≤ 140737488351232) :
    Calls Try.prog 9 #[.agg #[.int .i64 gp0, .int .i64 cl0, .int .i64 sq0, .int .i64 kd0, .int .i64 ci0, .int .i64 ir0, .int .i64 bt0, .int .i64 si0, .int .i64 q0.a, .int .i64 q0.b, .int .i64 q0.c, .int .i64 q0.d, .int .i64 q0.e, .int .i64 q0.f, .int .i64 q0.g, .int .i64 n0.a, .int .i64 n0.b, .int .i64 n0.c, .int .i64 n0.d, .int .i64 n0.e, .int .i64 t0.t1, .int .i64 t0.t2, .int .i64 t0.c, .int .i64 t0.m, .int .i64 t0.wk, .slice t0.sa t0.sl t0.sc, .int .i64 t0.st], .agg #[.int .i64 gp1, .int .i64 cl1, .int .i64 sq1, .int .i64 kd1, .int .i64 ci1, .int .i64 ir1, .int .i64 bt1, .int .i64 si1, .int .i64 q1.a, .int .i64 q1.b, .int .i64 q1.c, .int .i64 q1.d, .int .i64 q1.e, .int .i64 q1.f, .int .i64 q1.g, .int .i64 n1.a, .int .i64 n1.b, .int .i64 n1.c, .int .i64 n1.d, .int .i64 n1.e, .int .i64 t1.t1, .int .i64 t1.t2, .int .i64 t1.c, .int .i64 t1.m, .int .i64 t1.wk, .slice t1.sa t1.sl t1.sc, .int .i64 t1.st]] w fun e w' => e = .returned (.bool true) ∧ Below w.heap.size w w' := by
  obtain ⟨⟨h01, h02, h03⟩, ⟨h04, h05, h06, h07, h08⟩, ⟨r01, r02, r03, r04, r05, r06, r07⟩, ⟨s01, s02, s03, s04, s05⟩, ⟨u01, u02, u03, u04, u05, u06⟩, hx0⟩ := hk0
  obtain ⟨⟨h11, h12, h13⟩, ⟨h14, h15, h16, h17, h18⟩, ⟨r11, r12, r13, r14, r15, r16, r17⟩, ⟨s11, s12, s13, s14, s15⟩, ⟨u11, u12, u13, u14, u15, u16⟩, hx1⟩ := hk1
  exact walk1 gp0 cl0 sq0 kd0 ci0 ir0 bt0 si0 q0.a q0.b q0.c q0.d q0.e q0.f q0.g n0.a n0.b n0.c n0.d n0.e t0.t1 t0.t2 t0.c t0.m t0.wk gp1 cl1 sq1 kd1 ci1 ir1 bt1 si1 q1.a q1.b q1.c q1.d q1.e q1.f q1.g n1.a n1.b n1.c n1.d n1.e t1.t1 t1.t2 t1.c t1.m t1.wk t0.sa t1.sa t0.sl t1.sl t0.sc t1.sc t0.tk t1.tk t0.st t1.st w h01 h02 h03 h04 h05 h06 h07 h08 r01 r02 r03 r04 r05 r06 r07 s01 s02 s03 s04 s05 u01 u02 u03 u04 u05 u06 h11 h12 h13 h14 h15 h16 h17 h18 r11 r12 r13 r14 r15 r16 r17 s11 s12 s13 s14 s15 u11 u12 u13 u14 u15 u16 ht0 ht1 hx0 hx1 hs0

theorem own : ownKnob Try.prog.godebug = none := by kernel_rfl
theorem laidOut : laidOutB Try.prog = true := by kernel_rfl

set_option maxRecDepth 100000 in
theorem lifted (os : Os) (started : os.Started) (H : Type) (enc : TypeId × Value → H) :
    ReturnsInHanded {} Try.checked os 9 .any (Rows.commandApartSpec.pre6 enc Try.prog Try.f9 Rows.commandApartRow.domain false) (Rows.commandApartSpec.post enc Try.prog Try.f9 false true false false) := by
  refine returnsInHanded_of_change_sized (C := Try.checked) own started (by kernel_rfl) Try.func9
    (ChangeSpec.witness6 (enc := enc) (C := Try.checked) false ⟨#[], #[.agg #[.int .i64 0, .int .i64 0, .int .i64 0, .int .i64 0, .int .i64 0, .int .i64 0, .int .i64 0, .int .i64 0, .int .i64 0, .int .i64 0, .int .i64 0, .int .i64 0, .int .i64 0, .int .i64 0, .int .i64 0, .int .i64 0, .int .i64 0, .int .i64 0, .int .i64 0, .int .i64 0, .int .i64 0, .int .i64 0, .int .i64 0, .int .i64 0, .int .i64 0, .slice none 0 0, .int .i64 0], .agg #[.int .i64 0, .int .i64 0, .int .i64 0, .int .i64 0, .int .i64 0, .int .i64 0, .int .i64 0, .int .i64 0, .int .i64 0, .int .i64 0, .int .i64 0, .int .i64 0, .int .i64 0, .int .i64 0, .int .i64 0, .int .i64 0, .int .i64 0, .int .i64 0, .int .i64 0, .int .i64 0, .int .i64 0, .int .i64 0, .int .i64 0, .int .i64 0, .int .i64 0, .slice none 0 0, .int .i64 0]], []⟩ 8 (by kernel_rfl) (by kernel_rfl) (by kernel_rfl) (by kernel_rfl)) ?_
  intro W base args ds gs before hval0 hW hcnd hsz0 _
  have hsz : (DataW.weightsEach Try.prog (Try.f9.params.toList ++ Rows.commandApartSpec.plain.varTypes Try.prog) (ds ++ gs)).all (· ≤ reachBytes) = true := hsz0
  have hval : ∀ (j : Nat) t v, Try.f9.params[j]? = some t → args[j]? = some v → Value.okWide Try.prog W .any base t v := hval0
  have hW' := hW
  obtain ⟨p, q, hA0, hV, rfl, hfz, hnd⟩ := hW
  have hA : DataW.TrodAll enc Try.prog W 0 (fun _ => true) true Try.f9.params.toList args.toList ds p := hA0
  rw [Try.params9] at hA hval hsz
  obtain ⟨v0, vs0, d0, ds0, p0, q0, hargs, rfl, rfl, h0, r0⟩ := trodAll_cons hA
  obtain ⟨v1, vs1, d1, ds1, p1, q1, rfl, rfl, rfl, h1, r1⟩ := trodAll_cons r0
  obtain ⟨rfl, rfl, rfl⟩ := trodAll_nil r1
  obtain rfl : args = #[v0, v1] := by cases args; simp_all
  obtain ⟨rfl, rfl⟩ := trodVars_none hV
  have lt0 : ∀ x ∈ p0, x.block < W.heap.size := by obtain ⟨m, hm⟩ := h0; exact DataW.trod_lt m _ _ _ hm
  have lt1 : ∀ x ∈ p1, x.block < W.heap.size := by obtain ⟨m, hm⟩ := h1; exact DataW.trod_lt m _ _ _ hm
  obtain ⟨gp0, cl0, sq0, kd0, ci0, ir0, bt0, si0, q0, n0, t0, rfl, w0, k0, sz0⟩ := val_entry (hval 0 34 v0 rfl rfl) h0
  have s0 : t0.sc * 8 ≤ 140737488351232 := sz0 (by rw [List.all_eq_true]; intro n hn; exact (List.all_eq_true.1 hsz) n (DataW.weights_mem_each (j := 0) rfl rfl n hn))
  obtain ⟨gp1, cl1, sq1, kd1, ci1, ir1, bt1, si1, q1, n1, t1, rfl, w1, k1, sz1⟩ := val_entry (hval 1 34 v1 rfl rfl) h1
  have s1 : t1.sc * 8 ≤ 140737488351232 := sz1 (by rw [List.all_eq_true]; intro n hn; exact (List.all_eq_true.1 hsz) n (DataW.weights_mem_each (j := 1) rfl rfl n hn))
  clear hA0 hval0
  refine (walk gp0 cl0 sq0 kd0 ci0 ir0 bt0 si0 q0 n0 t0 gp1 cl1 sq1 kd1 ci1 ir1 bt1 si1 q1 n1 t1 W w0 k0 s0 w1 k1 s1).mono fun e W' ⟨he, bel⟩ => ?_
  subst he
  exact ⟨_, rfl, _, _, _, [], _, [], hW', trodAll_mk1 (shut_bool Try.underlying4 _), (trodAll_cons_mk (Below.trod laidOut (by kernel_rfl) (of_decide_eq_true (by kernel_rfl)) h0 bel lt0) (trodAll_cons_mk (Below.trod laidOut (by kernel_rfl) (of_decide_eq_true (by kernel_rfl)) h1 bel lt1) trodAll_mk0)), rfl, bel.frame _, fun h => by cases h⟩

theorem over : Rows.commandApartRow.holds Try.pinned (OpenSpec.ofChange Rows.commandApartSpec) :=
  OpenClaim.holds_of_wide 9 Try.f9 rfl rfl rfl rfl rfl rfl rfl ⟨rfl, rfl, rfl, rfl, rfl⟩ rfl rfl rfl rfl rfl (by kernel_rfl) Try.func9 (by kernel_rfl)
    (of_decide_eq_true (by kernel_rfl)) (by unfold Func.isWrapper; first | (rw [if_pos (by decide +kernel)]; kernel_rfl) | (rw [if_neg (by decide +kernel)]; exact ⟨rfl, rfl⟩))
    (fun os started H enc _ => lifted os started H enc)

theorem proved : Rows.CommandApartSaid := over
end Go.Proofs.Ytkjglpgjflkmbaa.commandApart
