/- CommandBack: for every entry, answer and state, and for all bytes, the law answers true, and they read as they did. No further conditions. -/
import Derived.Test.YthkbddnkcljjpaaMFV
namespace Go.Proofs.Ythkbddnkcljjpaa.commandBack
open Go.ChangeShapes Go.WideShapes Go.ChangeAt Go.RowKit Go.Deep Go.Maps
set_option linter.unusedVariables false
set_option linter.unusedSimpArgs false

set_option maxRecDepth 100000 in
set_option maxHeartbeats 16000000 in
theorem main (gp cl sq kd ci ir bt si q1 q2 q3 q4 q5 q6 q7 n1 n2 n3 n4 n5 t1 t2 c m wk st : Int) (xa : Option Addr) (xn xc : Nat) (tk : List Int) (er at' an : Int) (ca : Option Addr) (cn cc : Nat) (co : List Int) (ra : Option Addr) (rn rc : Nat) (rs : List Le) (lo pa no : Int) (qa : Option Addr) (qn qc : Nat) (qs : List Q7) (na : Option Addr) (nn nc : Nat) (ns : List N5) (ta : Option Addr) (tn tc : Nat) (ts : List T7) (la : Option Addr) (ln lc : Nat) (ls : List Le) (ha : Option Addr) (hn hc : Nat) (hs : List H2) (ba : Option Addr) (bn bc : Nat) (l : List Int) (w : World) (igp : I64 gp) (icl : I64 cl) (isq : I64 sq) (ikd : I64 kd) (ici : I64 ci) (iir : I64 ir) (ibt : I64 bt) (isi : I64 si) (iq1 : I64 q1) (iq2 : I64 q2) (iq3 : I64 q3) (iq4 : I64 q4) (iq5 : I64 q5) (iq6 : I64 q6) (iq7 : I64 q7) (in1 : I64 n1) (in2 : I64 n2) (in3 : I64 n3) (in4 : I64 n4) (in5 : I64 n5) (it1 : I64 t1) (it2 : I64 t2) (ic : I64 c) (im : I64 m) (iwk : I64 wk) (ist : I64 st) (hx : ∀ x ∈ tk, I64 x) (hi : I64 er ∧ I64 at' ∧ I64 an) (hcx : ∀ x ∈ co, I64 x) (hj : I64 lo ∧ I64 pa ∧ I64 no) (kq : ∀ x ∈ qs, x.ok) (kn : ∀ x ∈ ns, x.ok) (kh : ∀ x ∈ hs, x.ok) (h1 : HoldsN w xa xn xc tk) (h2 : (HoldsN w ca cn cc co ∧ HoldsE 8 Le.cs w ra rn rc rs ∧ LeAll w rs)) (h3 : (HoldsE 7 Q7.cs w qa qn qc qs ∧ HoldsE 5 N5.cs w na nn nc ns ∧ (HoldsE 7 T7.cs w ta tn tc ts ∧ TaAll w ts) ∧ (HoldsE 8 Le.cs w la ln lc ls ∧ LeAll w ls) ∧ HoldsE 2 H2.cs w ha hn hc hs)) (h4 : HoldsB w ba bn bc l) :
    Calls Try.prog 7 #[.agg #[.int .i64 gp, .int .i64 cl, .int .i64 sq, .int .i64 kd, .int .i64 ci, .int .i64 ir, .int .i64 bt, .int .i64 si, .int .i64 q1, .int .i64 q2, .int .i64 q3, .int .i64 q4, .int .i64 q5, .int .i64 q6, .int .i64 q7, .int .i64 n1, .int .i64 n2, .int .i64 n3, .int .i64 n4, .int .i64 n5, .int .i64 t1, .int .i64 t2, .int .i64 c, .int .i64 m, .int .i64 wk, .slice xa xn xc, .int .i64 st], .agg #[.int .i64 er, .int .i64 at', .int .i64 an, .slice ca cn cc, .slice ra rn rc], .agg #[.int .i64 lo, .int .i64 pa, .int .i64 no, .slice qa qn qc, .slice na nn nc, .slice ta tn tc, .slice la ln lc, .slice ha hn hc], .slice ba bn bc] w fun e w' => e = .returned (.bool true) ∧ Below w.heap.size w w' := by
  obtain ⟨EE, BE, OE, hE1, hE2, hE3, hE4⟩ := ent_back gp cl sq kd ci ir bt si q1 q2 q3 q4 q5 q6 q7 n1 n2 n3 n4 n5 t1 t2 c m wk st xa xn xc tk h1.1 igp icl isq ikd ici iir ibt isi iq1 iq2 iq3 iq4 iq5 iq6 iq7 in1 in2 in3 in4 in5 it1 it2 ic im iwk ist hx
  obtain ⟨EA, BA, OA, hA1, hA2, hA3, hA4⟩ := ans_back er at' an ca cn cc co ra rn rc rs h2.1.1 hi hcx (fun x hx => ⟨(h2.2.2 x hx).1.1, (h2.2.2 x hx).2⟩)
  obtain ⟨ES, BS, OS, hS1, hS2, hS3, hS4⟩ := sta_back lo pa no qa qn qc qs na nn nc ns ta tn tc ts la ln lc ls ha hn hc hs hj kq kn (fun x hx => ⟨(h3.2.2.1.2 x hx).1.1, (h3.2.2.1.2 x hx).2⟩) (fun x hx => ⟨(h3.2.2.2.1.2 x hx).1.1, (h3.2.2.2.1.2 x hx).2⟩) kh
  obtain ⟨IE, IA, IS, eIE, eIA, eIS⟩ : ∃ (IE IA IS : World → Prop), Hid (IE = fun W => HoldsN W xa xn xc tk) ∧ Hid (IA = fun W => (HoldsN W ca cn cc co ∧ HoldsE 8 Le.cs W ra rn rc rs ∧ LeAll W rs)) ∧ Hid (IS = fun W => (HoldsE 7 Q7.cs W qa qn qc qs ∧ HoldsE 5 N5.cs W na nn nc ns ∧ (HoldsE 7 T7.cs W ta tn tc ts ∧ TaAll W ts) ∧ (HoldsE 8 Le.cs W la ln lc ls ∧ LeAll W ls) ∧ HoldsE 2 H2.cs W ha hn hc hs)) := ⟨_, _, _, rfl, rfl, rfl⟩
  have IN0 : Hid (IE w ∧ IA w ∧ IS w ∧ HoldsB w ba bn bc l) := ⟨by rw [eIE.out]; exact h1, by rw [eIA.out]; exact h2, by rw [eIS.out]; exact h3, h4⟩
  have INB : Hid (∀ W W', (IE W ∧ IA W ∧ IS W ∧ HoldsB W ba bn bc l) → Below W.heap.size W W' → (IE W' ∧ IA W' ∧ IS W' ∧ HoldsB W' ba bn bc l)) := by
    intro W W' h b
    rw [eIE.out, eIA.out, eIS.out] at h ⊢
    obtain ⟨g1, ⟨g2, g3, g4⟩, ⟨g5, g6, ⟨g7, g8⟩, ⟨g9, g10⟩, g11⟩, g12⟩ := h
    exact ⟨g1.below b, ⟨g2.below b, g3.below b, fun x hx => ⟨(g4 x hx).1.below b, (g4 x hx).2⟩⟩, ⟨g5.below b, g6.below b, ⟨g7.below b, fun x hx => ⟨(g8 x hx).1.below b, (g8 x hx).2⟩⟩, ⟨g9.below b, fun x hx => ⟨(g10 x hx).1.below b, (g10 x hx).2⟩⟩, g11.below b⟩, g12.below b⟩
  have NE := hid (fun W (h : IE W) => hE1 W (by rw [eIE.out] at h; exact h))
  have DE := hid hE2
  have ME := hid (fun z b W cs o (h : IE W) => hE3 z b W cs o (by rw [eIE.out] at h; exact h))
  have VE := hid hE4
  have NA := hid (fun W (h : IA W) => hA1 W (by rw [eIA.out] at h; exact h))
  have DA := hid hA2
  have MA := hid (fun z b W cs o (h : IA W) => hA3 z b W cs o (by rw [eIA.out] at h; exact h))
  have VA := hid hA4
  have NS := hid (fun W (h : IS W) => hS1 W (by rw [eIS.out] at h; exact h))
  have DS := hid hS2
  have MS := hid (fun z b W cs o (h : IS W) => hS3 z b W cs o (by rw [eIS.out] at h; exact h))
  have VS := hid hS4
  have WR := hid (fun W (h : HoldsB W ba bn bc l) => written_any ba bn bc l W h)
  clear hE1 hE2 hE3 hE4 hA1 hA2 hA3 hA4 hS1 hS2 hS3 hS4 h1 h2 h3 h4 hx hi hcx hj kq kn kh eIE eIA eIS igp icl isq ikd ici iir ibt isi iq1 iq2 iq3 iq4 iq5 iq6 iq7 in1 in2 in3 in4 in5 it1 it2 ic im iwk ist
  obtain ⟨LE, hLE⟩ : ∃ L : Array Value, L = #[.int .i64 gp, .int .i64 cl, .int .i64 sq, .int .i64 kd, .int .i64 ci, .int .i64 ir, .int .i64 bt, .int .i64 si, .int .i64 q1, .int .i64 q2, .int .i64 q3, .int .i64 q4, .int .i64 q5, .int .i64 q6, .int .i64 q7, .int .i64 n1, .int .i64 n2, .int .i64 n3, .int .i64 n4, .int .i64 n5, .int .i64 t1, .int .i64 t2, .int .i64 c, .int .i64 m, .int .i64 wk, .slice xa xn xc, .int .i64 st] := ⟨_, rfl⟩
  obtain ⟨LA, hLA⟩ : ∃ L : Array Value, L = #[.int .i64 er, .int .i64 at', .int .i64 an, .slice ca cn cc, .slice ra rn rc] := ⟨_, rfl⟩
  obtain ⟨LS, hLS⟩ : ∃ L : Array Value, L = #[.int .i64 lo, .int .i64 pa, .int .i64 no, .slice qa qn qc, .slice na nn nc, .slice ta tn tc, .slice la ln lc, .slice ha hn hc] := ⟨_, rfl⟩
  have zE : Hid ((Try.prog.info? 34).map (·.size) = some LE.size) := by unfold Hid; rw [hLE]; exact sizeEnt
  have zA : Hid ((Try.prog.info? 46).map (·.size) = some LA.size) := by unfold Hid; rw [hLA]; exact sizeAns
  have zS : Hid ((Try.prog.info? 54).map (·.size) = some LS.size) := by unfold Hid; rw [hLS]; exact sizeSta
  go_enter Try.func7, Try.ntmps7
  go_upto_region 1 with fail
  have c1 := (Below.refl w.heap.size w).alloc (Nat.le_refl _) (.cells #[.int .i64 gp, .int .i64 cl, .int .i64 sq, .int .i64 kd, .int .i64 ci, .int .i64 ir, .int .i64 bt, .int .i64 si, .int .i64 q1, .int .i64 q2, .int .i64 q3, .int .i64 q4, .int .i64 q5, .int .i64 q6, .int .i64 q7, .int .i64 n1, .int .i64 n2, .int .i64 n3, .int .i64 n4, .int .i64 n5, .int .i64 t1, .int .i64 t2, .int .i64 c, .int .i64 m, .int .i64 wk, .slice xa xn xc, .int .i64 st] 34)
  have c2 := (Below.refl (w.alloc (.cells #[.int .i64 gp, .int .i64 cl, .int .i64 sq, .int .i64 kd, .int .i64 ci, .int .i64 ir, .int .i64 bt, .int .i64 si, .int .i64 q1, .int .i64 q2, .int .i64 q3, .int .i64 q4, .int .i64 q5, .int .i64 q6, .int .i64 q7, .int .i64 n1, .int .i64 n2, .int .i64 n3, .int .i64 n4, .int .i64 n5, .int .i64 t1, .int .i64 t2, .int .i64 c, .int .i64 m, .int .i64 wk, .slice xa xn xc, .int .i64 st] 34)).heap.size (w.alloc (.cells #[.int .i64 gp, .int .i64 cl, .int .i64 sq, .int .i64 kd, .int .i64 ci, .int .i64 ir, .int .i64 bt, .int .i64 si, .int .i64 q1, .int .i64 q2, .int .i64 q3, .int .i64 q4, .int .i64 q5, .int .i64 q6, .int .i64 q7, .int .i64 n1, .int .i64 n2, .int .i64 n3, .int .i64 n4, .int .i64 n5, .int .i64 t1, .int .i64 t2, .int .i64 c, .int .i64 m, .int .i64 wk, .slice xa xn xc, .int .i64 st] 34))).alloc (Nat.le_refl _) (.cells #[.int .i64 er, .int .i64 at', .int .i64 an, .slice ca cn cc, .slice ra rn rc] 46)
  have c3 := (Below.refl ((w.alloc (.cells #[.int .i64 gp, .int .i64 cl, .int .i64 sq, .int .i64 kd, .int .i64 ci, .int .i64 ir, .int .i64 bt, .int .i64 si, .int .i64 q1, .int .i64 q2, .int .i64 q3, .int .i64 q4, .int .i64 q5, .int .i64 q6, .int .i64 q7, .int .i64 n1, .int .i64 n2, .int .i64 n3, .int .i64 n4, .int .i64 n5, .int .i64 t1, .int .i64 t2, .int .i64 c, .int .i64 m, .int .i64 wk, .slice xa xn xc, .int .i64 st] 34)).alloc (.cells #[.int .i64 er, .int .i64 at', .int .i64 an, .slice ca cn cc, .slice ra rn rc] 46)).heap.size ((w.alloc (.cells #[.int .i64 gp, .int .i64 cl, .int .i64 sq, .int .i64 kd, .int .i64 ci, .int .i64 ir, .int .i64 bt, .int .i64 si, .int .i64 q1, .int .i64 q2, .int .i64 q3, .int .i64 q4, .int .i64 q5, .int .i64 q6, .int .i64 q7, .int .i64 n1, .int .i64 n2, .int .i64 n3, .int .i64 n4, .int .i64 n5, .int .i64 t1, .int .i64 t2, .int .i64 c, .int .i64 m, .int .i64 wk, .slice xa xn xc, .int .i64 st] 34)).alloc (.cells #[.int .i64 er, .int .i64 at', .int .i64 an, .slice ca cn cc, .slice ra rn rc] 46))).alloc (Nat.le_refl _) (.cells #[.int .i64 lo, .int .i64 pa, .int .i64 no, .slice qa qn qc, .slice na nn nc, .slice ta tn tc, .slice la ln lc, .slice ha hn hc] 54)
  have X1 := hid (((Blk.alloc w #[.int .i64 gp, .int .i64 cl, .int .i64 sq, .int .i64 kd, .int .i64 ci, .int .i64 ir, .int .i64 bt, .int .i64 si, .int .i64 q1, .int .i64 q2, .int .i64 q3, .int .i64 q4, .int .i64 q5, .int .i64 q6, .int .i64 q7, .int .i64 n1, .int .i64 n2, .int .i64 n3, .int .i64 n4, .int .i64 n5, .int .i64 t1, .int .i64 t2, .int .i64 c, .int .i64 m, .int .i64 wk, .slice xa xn xc, .int .i64 st] (34)).below c2).below c3)
  have X2 := hid ((Blk.alloc (w.alloc (.cells #[.int .i64 gp, .int .i64 cl, .int .i64 sq, .int .i64 kd, .int .i64 ci, .int .i64 ir, .int .i64 bt, .int .i64 si, .int .i64 q1, .int .i64 q2, .int .i64 q3, .int .i64 q4, .int .i64 q5, .int .i64 q6, .int .i64 q7, .int .i64 n1, .int .i64 n2, .int .i64 n3, .int .i64 n4, .int .i64 n5, .int .i64 t1, .int .i64 t2, .int .i64 c, .int .i64 m, .int .i64 wk, .slice xa xn xc, .int .i64 st] 34)) #[.int .i64 er, .int .i64 at', .int .i64 an, .slice ca cn cc, .slice ra rn rc] (46)).below c3)
  have X3 := hid (Blk.alloc ((w.alloc (.cells #[.int .i64 gp, .int .i64 cl, .int .i64 sq, .int .i64 kd, .int .i64 ci, .int .i64 ir, .int .i64 bt, .int .i64 si, .int .i64 q1, .int .i64 q2, .int .i64 q3, .int .i64 q4, .int .i64 q5, .int .i64 q6, .int .i64 q7, .int .i64 n1, .int .i64 n2, .int .i64 n3, .int .i64 n4, .int .i64 n5, .int .i64 t1, .int .i64 t2, .int .i64 c, .int .i64 m, .int .i64 wk, .slice xa xn xc, .int .i64 st] 34)).alloc (.cells #[.int .i64 er, .int .i64 at', .int .i64 an, .slice ca cn cc, .slice ra rn rc] 46)) #[.int .i64 lo, .int .i64 pa, .int .i64 no, .slice qa qn qc, .slice na nn nc, .slice ta tn tc, .slice la ln lc, .slice ha hn hc] (54))
  have IN := hid (INB.out _ _ (INB.out _ _ (INB.out _ _ IN0.out c1) c2) c3)
  have B := hid ((c1.trans (c2.mono c1.size)).trans (c3.mono (c1.trans (c2.mono c1.size)).size))
  rw [World.size_alloc] at X2
  rw [World.size_alloc, World.size_alloc] at X3
  clear c1 c2 c3 IN0
  generalize (((w.alloc (.cells #[.int .i64 gp, .int .i64 cl, .int .i64 sq, .int .i64 kd, .int .i64 ci, .int .i64 ir, .int .i64 bt, .int .i64 si, .int .i64 q1, .int .i64 q2, .int .i64 q3, .int .i64 q4, .int .i64 q5, .int .i64 q6, .int .i64 q7, .int .i64 n1, .int .i64 n2, .int .i64 n3, .int .i64 n4, .int .i64 n5, .int .i64 t1, .int .i64 t2, .int .i64 c, .int .i64 m, .int .i64 wk, .slice xa xn xc, .int .i64 st] 34)).alloc (.cells #[.int .i64 er, .int .i64 at', .int .i64 an, .slice ca cn cc, .slice ra rn rc] 46)).alloc (.cells #[.int .i64 lo, .int .i64 pa, .int .i64 no, .slice qa qn qc, .slice na nn nc, .slice ta tn tc, .slice la ln lc, .slice ha hn hc] 54)) = W0 at *
  rw [← hLE] at X1 NE ME
  rw [← hLA] at X2 NA MA
  rw [← hLS] at X3 NS MS
  clear hLE hLA hLS
  have AW := hid (awake10_any W0)
  go_wp2_with fail
  with_reducible refine AW.out.mono ?_
  rintro e W1 ⟨rfl, b1⟩
  replace X1 := hid (X1.out.below b1)
  replace X2 := hid (X2.out.below b1)
  replace X3 := hid (X3.out.below b1)
  replace IN := hid (INB.out _ _ IN.out b1)
  replace B := hid (B.out.trans (b1.mono B.out.size))
  clear AW b1
  generalize W1 = W0 at *
  have C1 := hid (NE.out W0 IN.out.1)
  have LD := X1.out.loadAt Try.underlying34 rfl zE.out
  go_wp2_with (refine wpList_load_at 34 rfl (.tmp 4) rfl _ _ rfl _ LD ?_)
  with_reducible refine C1.out.mono ?_
  rintro e W1 ⟨v, rfl, ho, b1⟩
  replace X1 := hid (X1.out.below b1)
  replace X2 := hid (X2.out.below b1)
  replace X3 := hid (X3.out.below b1)
  replace IN := hid (INB.out _ _ IN.out b1)
  replace B := hid (B.out.trans (b1.mono B.out.size))
  clear C1 LD b1 NE
  by_cases hE : EE = 0
  · subst hE
    have o := ho rfl
    obtain ⟨va, vc, rfl⟩ := o.form
    have C2 := hid (DE.out (by trivial) W1 va vc o.holds)
    clear o ho DE
    generalize BE.length = N at *
    go_wp2_with fail
    with_reducible refine C2.out.mono ?_
    rintro e W2 ⟨cs, rfl, oc, hcs, hon, b1⟩
    replace X1 := hid (X1.out.below b1)
    replace X2 := hid (X2.out.below b1)
    replace X3 := hid (X3.out.below b1)
    replace IN := hid (INB.out _ _ IN.out b1)
    replace B := hid (B.out.trans (b1.mono B.out.size))
    have b2 := (Below.refl W2.heap.size W2).alloc (Nat.le_refl _) (.cells cs 34)
    have Xc := hid (Blk.alloc W2 cs (34))
    have hsz : (Try.prog.info? 34).map (·.size) = some cs.size := by rw [hcs]; exact sizeEnt
    have O := hid (VE.out _ _ _ _ oc b2)
    replace X1 := hid (X1.out.below b2)
    replace X2 := hid (X2.out.below b2)
    replace X3 := hid (X3.out.below b2)
    replace IN := hid (INB.out _ _ IN.out b2)
    replace B := hid (B.out.trans (b2.mono B.out.size))
    have HO := hid hon
    have HC := hid hcs
    have HS := hid hsz
    clear C2 b1 b2 oc hon hsz hcs
    go_upto_region 6 with (refine wpList_store_row rfl 34 (.tmp 11) (.tmp 36) rfl W2.heap.size cs rfl rfl 34 _ (heap_alloc_new W2 _) HS.out (by rw [HC.out]; rfl) HO.out ?_)
    rw [alloc_row]
    generalize W2.alloc (.cells cs 34) = W3 at *
    generalize W2.heap.size = Q at *
    have C3 := hid (ME.out (by trivial) _ W3 cs O.out IN.out.1)
    have LD1 := Xc.out.loadAt Try.underlying34 rfl HS.out
    have LD2 := X1.out.loadAt Try.underlying34 rfl zE.out
    clear Xc X1 O HO HC HS ME VE zE
    go_wp2_with (first | refine wpList_load_at 34 rfl (.tmp 11) rfl _ _ rfl _ LD1 ?_ | refine wpList_load_at 34 rfl (.tmp 4) rfl _ _ rfl _ LD2 ?_)
    with_reducible refine C3.out.mono ?_
    rintro e W4 ⟨rfl, b1⟩
    replace X2 := hid (X2.out.below b1)
    replace X3 := hid (X3.out.below b1)
    replace IN := hid (INB.out _ _ IN.out b1)
    replace B := hid (B.out.trans (b1.mono B.out.size))
    clear C3 LD1 LD2 b1
    have C1 := hid (NA.out W4 IN.out.2.1)
    have LD := X2.out.loadAt Try.underlying46 rfl zA.out
    go_wp2_with (refine wpList_load_at 46 rfl (.tmp 5) rfl _ _ rfl _ LD ?_)
    with_reducible refine C1.out.mono ?_
    rintro e W1 ⟨v, rfl, ho, b1⟩
    replace X2 := hid (X2.out.below b1)
    replace X3 := hid (X3.out.below b1)
    replace IN := hid (INB.out _ _ IN.out b1)
    replace B := hid (B.out.trans (b1.mono B.out.size))
    clear C1 LD b1 NA
    by_cases hE : EA = 0
    · subst hE
      have o := ho rfl
      obtain ⟨va, vc, rfl⟩ := o.form
      have C2 := hid (DA.out (by trivial) W1 va vc o.holds)
      clear o ho DA
      generalize BA.length = N at *
      go_wp2_with fail
      with_reducible refine C2.out.mono ?_
      rintro e W2 ⟨cs, rfl, oc, hcs, hon, b1⟩
      replace X2 := hid (X2.out.below b1)
      replace X3 := hid (X3.out.below b1)
      replace IN := hid (INB.out _ _ IN.out b1)
      replace B := hid (B.out.trans (b1.mono B.out.size))
      have b2 := (Below.refl W2.heap.size W2).alloc (Nat.le_refl _) (.cells cs 46)
      have Xc := hid (Blk.alloc W2 cs (46))
      have hsz : (Try.prog.info? 46).map (·.size) = some cs.size := by rw [hcs]; exact sizeAns
      have O := hid (VA.out _ _ _ _ oc b2)
      replace X2 := hid (X2.out.below b2)
      replace X3 := hid (X3.out.below b2)
      replace IN := hid (INB.out _ _ IN.out b2)
      replace B := hid (B.out.trans (b2.mono B.out.size))
      have HO := hid hon
      have HC := hid hcs
      have HS := hid hsz
      clear C2 b1 b2 oc hon hsz hcs
      go_upto_region 11 with (refine wpList_store_row rfl 46 (.tmp 16) (.tmp 61) rfl W2.heap.size cs rfl rfl 46 _ (heap_alloc_new W2 _) HS.out (by rw [HC.out]; rfl) HO.out ?_)
      rw [alloc_row]
      generalize W2.alloc (.cells cs 46) = W3 at *
      generalize W2.heap.size = Q at *
      have C3 := hid (MA.out (by trivial) _ W3 cs O.out IN.out.2.1)
      have LD1 := Xc.out.loadAt Try.underlying46 rfl HS.out
      have LD2 := X2.out.loadAt Try.underlying46 rfl zA.out
      clear Xc X2 O HO HC HS MA VA zA
      go_wp2_with (first | refine wpList_load_at 46 rfl (.tmp 16) rfl _ _ rfl _ LD1 ?_ | refine wpList_load_at 46 rfl (.tmp 5) rfl _ _ rfl _ LD2 ?_)
      with_reducible refine C3.out.mono ?_
      rintro e W4 ⟨rfl, b1⟩
      replace X3 := hid (X3.out.below b1)
      replace IN := hid (INB.out _ _ IN.out b1)
      replace B := hid (B.out.trans (b1.mono B.out.size))
      clear C3 LD1 LD2 b1
      have C1 := hid (NS.out W4 IN.out.2.2.1)
      have LD := X3.out.loadAt Try.underlying54 rfl zS.out
      go_wp2_with (refine wpList_load_at 54 rfl (.tmp 6) rfl _ _ rfl _ LD ?_)
      with_reducible refine C1.out.mono ?_
      rintro e W1 ⟨v, rfl, ho, b1⟩
      replace X3 := hid (X3.out.below b1)
      replace IN := hid (INB.out _ _ IN.out b1)
      replace B := hid (B.out.trans (b1.mono B.out.size))
      clear C1 LD b1 NS
      by_cases hE : ES = 0
      · subst hE
        have o := ho rfl
        obtain ⟨va, vc, rfl⟩ := o.form
        have C2 := hid (DS.out (by trivial) W1 va vc o.holds)
        clear o ho DS
        generalize BS.length = N at *
        go_wp2_with fail
        with_reducible refine C2.out.mono ?_
        rintro e W2 ⟨cs, rfl, oc, hcs, hon, b1⟩
        replace X3 := hid (X3.out.below b1)
        replace IN := hid (INB.out _ _ IN.out b1)
        replace B := hid (B.out.trans (b1.mono B.out.size))
        have b2 := (Below.refl W2.heap.size W2).alloc (Nat.le_refl _) (.cells cs 54)
        have Xc := hid (Blk.alloc W2 cs (54))
        have hsz : (Try.prog.info? 54).map (·.size) = some cs.size := by rw [hcs]; exact sizeSta
        have O := hid (VS.out _ _ _ _ oc b2)
        replace X3 := hid (X3.out.below b2)
        replace IN := hid (INB.out _ _ IN.out b2)
        replace B := hid (B.out.trans (b2.mono B.out.size))
        have HO := hid hon
        have HC := hid hcs
        have HS := hid hsz
        clear C2 b1 b2 oc hon hsz hcs
        go_upto_region 16 with (refine wpList_store_row rfl 54 (.tmp 21) (.tmp 86) rfl W2.heap.size cs rfl rfl 54 _ (heap_alloc_new W2 _) HS.out (by rw [HC.out]; rfl) HO.out ?_)
        rw [alloc_row]
        generalize W2.alloc (.cells cs 54) = W3 at *
        generalize W2.heap.size = Q at *
        have C3 := hid (MS.out (by trivial) _ W3 cs O.out IN.out.2.2.1)
        have LD1 := Xc.out.loadAt Try.underlying54 rfl HS.out
        have LD2 := X3.out.loadAt Try.underlying54 rfl zS.out
        clear Xc X3 O HO HC HS MS VS zS
        go_wp2_with (first | refine wpList_load_at 54 rfl (.tmp 21) rfl _ _ rfl _ LD1 ?_ | refine wpList_load_at 54 rfl (.tmp 6) rfl _ _ rfl _ LD2 ?_)
        with_reducible refine C3.out.mono ?_
        rintro e W4 ⟨rfl, b1⟩
        replace IN := hid (INB.out _ _ IN.out b1)
        replace B := hid (B.out.trans (b1.mono B.out.size))
        clear C3 LD1 LD2 b1
        have C1 := hid (WR.out W4 IN.out.2.2.2)
        go_wp2_with fail
        with_reducible refine C1.out.mono ?_
        rintro e W9 ⟨rfl, b1⟩
        replace B := hid (B.out.trans (b1.mono B.out.size))
        clear C1 b1
        go_wp2_with fail
        go_ret
        exact ⟨rfl, B.out⟩
      · have tE : (ES == 0) = false := by simpa using hE
        clear hE ho X3 MS VS zS DS
        have C1 := hid (WR.out W1 IN.out.2.2.2)
        go_wp2_with fail
        with_reducible refine C1.out.mono ?_
        rintro e W9 ⟨rfl, b1⟩
        replace B := hid (B.out.trans (b1.mono B.out.size))
        clear C1 b1
        go_wp2_with fail
        go_ret
        exact ⟨rfl, B.out⟩
    · have tE : (EA == 0) = false := by simpa using hE
      clear hE ho X2 MA VA zA DA
      have C1 := hid (NS.out W1 IN.out.2.2.1)
      have LD := X3.out.loadAt Try.underlying54 rfl zS.out
      go_wp2_with (refine wpList_load_at 54 rfl (.tmp 6) rfl _ _ rfl _ LD ?_)
      with_reducible refine C1.out.mono ?_
      rintro e W1 ⟨v, rfl, ho, b1⟩
      replace X3 := hid (X3.out.below b1)
      replace IN := hid (INB.out _ _ IN.out b1)
      replace B := hid (B.out.trans (b1.mono B.out.size))
      clear C1 LD b1 NS
      by_cases hE : ES = 0
      · subst hE
        have o := ho rfl
        obtain ⟨va, vc, rfl⟩ := o.form
        have C2 := hid (DS.out (by trivial) W1 va vc o.holds)
        clear o ho DS
        generalize BS.length = N at *
        go_wp2_with fail
        with_reducible refine C2.out.mono ?_
        rintro e W2 ⟨cs, rfl, oc, hcs, hon, b1⟩
        replace X3 := hid (X3.out.below b1)
        replace IN := hid (INB.out _ _ IN.out b1)
        replace B := hid (B.out.trans (b1.mono B.out.size))
        have b2 := (Below.refl W2.heap.size W2).alloc (Nat.le_refl _) (.cells cs 54)
        have Xc := hid (Blk.alloc W2 cs (54))
        have hsz : (Try.prog.info? 54).map (·.size) = some cs.size := by rw [hcs]; exact sizeSta
        have O := hid (VS.out _ _ _ _ oc b2)
        replace X3 := hid (X3.out.below b2)
        replace IN := hid (INB.out _ _ IN.out b2)
        replace B := hid (B.out.trans (b2.mono B.out.size))
        have HO := hid hon
        have HC := hid hcs
        have HS := hid hsz
        clear C2 b1 b2 oc hon hsz hcs
        go_upto_region 16 with (refine wpList_store_row rfl 54 (.tmp 21) (.tmp 86) rfl W2.heap.size cs rfl rfl 54 _ (heap_alloc_new W2 _) HS.out (by rw [HC.out]; rfl) HO.out ?_)
        rw [alloc_row]
        generalize W2.alloc (.cells cs 54) = W3 at *
        generalize W2.heap.size = Q at *
        have C3 := hid (MS.out (by trivial) _ W3 cs O.out IN.out.2.2.1)
        have LD1 := Xc.out.loadAt Try.underlying54 rfl HS.out
        have LD2 := X3.out.loadAt Try.underlying54 rfl zS.out
        clear Xc X3 O HO HC HS MS VS zS
        go_wp2_with (first | refine wpList_load_at 54 rfl (.tmp 21) rfl _ _ rfl _ LD1 ?_ | refine wpList_load_at 54 rfl (.tmp 6) rfl _ _ rfl _ LD2 ?_)
        with_reducible refine C3.out.mono ?_
        rintro e W4 ⟨rfl, b1⟩
        replace IN := hid (INB.out _ _ IN.out b1)
        replace B := hid (B.out.trans (b1.mono B.out.size))
        clear C3 LD1 LD2 b1
        have C1 := hid (WR.out W4 IN.out.2.2.2)
        go_wp2_with fail
        with_reducible refine C1.out.mono ?_
        rintro e W9 ⟨rfl, b1⟩
        replace B := hid (B.out.trans (b1.mono B.out.size))
        clear C1 b1
        go_wp2_with fail
        go_ret
        exact ⟨rfl, B.out⟩
      · have tE : (ES == 0) = false := by simpa using hE
        clear hE ho X3 MS VS zS DS
        have C1 := hid (WR.out W1 IN.out.2.2.2)
        go_wp2_with fail
        with_reducible refine C1.out.mono ?_
        rintro e W9 ⟨rfl, b1⟩
        replace B := hid (B.out.trans (b1.mono B.out.size))
        clear C1 b1
        go_wp2_with fail
        go_ret
        exact ⟨rfl, B.out⟩
  · have tE : (EE == 0) = false := by simpa using hE
    clear hE ho X1 ME VE zE DE
    have C1 := hid (NA.out W1 IN.out.2.1)
    have LD := X2.out.loadAt Try.underlying46 rfl zA.out
    go_wp2_with (refine wpList_load_at 46 rfl (.tmp 5) rfl _ _ rfl _ LD ?_)
    with_reducible refine C1.out.mono ?_
    rintro e W1 ⟨v, rfl, ho, b1⟩
    replace X2 := hid (X2.out.below b1)
    replace X3 := hid (X3.out.below b1)
    replace IN := hid (INB.out _ _ IN.out b1)
    replace B := hid (B.out.trans (b1.mono B.out.size))
    clear C1 LD b1 NA
    by_cases hE : EA = 0
    · subst hE
      have o := ho rfl
      obtain ⟨va, vc, rfl⟩ := o.form
      have C2 := hid (DA.out (by trivial) W1 va vc o.holds)
      clear o ho DA
      generalize BA.length = N at *
      go_wp2_with fail
      with_reducible refine C2.out.mono ?_
      rintro e W2 ⟨cs, rfl, oc, hcs, hon, b1⟩
      replace X2 := hid (X2.out.below b1)
      replace X3 := hid (X3.out.below b1)
      replace IN := hid (INB.out _ _ IN.out b1)
      replace B := hid (B.out.trans (b1.mono B.out.size))
      have b2 := (Below.refl W2.heap.size W2).alloc (Nat.le_refl _) (.cells cs 46)
      have Xc := hid (Blk.alloc W2 cs (46))
      have hsz : (Try.prog.info? 46).map (·.size) = some cs.size := by rw [hcs]; exact sizeAns
      have O := hid (VA.out _ _ _ _ oc b2)
      replace X2 := hid (X2.out.below b2)
      replace X3 := hid (X3.out.below b2)
      replace IN := hid (INB.out _ _ IN.out b2)
      replace B := hid (B.out.trans (b2.mono B.out.size))
      have HO := hid hon
      have HC := hid hcs
      have HS := hid hsz
      clear C2 b1 b2 oc hon hsz hcs
      go_upto_region 11 with (refine wpList_store_row rfl 46 (.tmp 16) (.tmp 61) rfl W2.heap.size cs rfl rfl 46 _ (heap_alloc_new W2 _) HS.out (by rw [HC.out]; rfl) HO.out ?_)
      rw [alloc_row]
      generalize W2.alloc (.cells cs 46) = W3 at *
      generalize W2.heap.size = Q at *
      have C3 := hid (MA.out (by trivial) _ W3 cs O.out IN.out.2.1)
      have LD1 := Xc.out.loadAt Try.underlying46 rfl HS.out
      have LD2 := X2.out.loadAt Try.underlying46 rfl zA.out
      clear Xc X2 O HO HC HS MA VA zA
      go_wp2_with (first | refine wpList_load_at 46 rfl (.tmp 16) rfl _ _ rfl _ LD1 ?_ | refine wpList_load_at 46 rfl (.tmp 5) rfl _ _ rfl _ LD2 ?_)
      with_reducible refine C3.out.mono ?_
      rintro e W4 ⟨rfl, b1⟩
      replace X3 := hid (X3.out.below b1)
      replace IN := hid (INB.out _ _ IN.out b1)
      replace B := hid (B.out.trans (b1.mono B.out.size))
      clear C3 LD1 LD2 b1
      have C1 := hid (NS.out W4 IN.out.2.2.1)
      have LD := X3.out.loadAt Try.underlying54 rfl zS.out
      go_wp2_with (refine wpList_load_at 54 rfl (.tmp 6) rfl _ _ rfl _ LD ?_)
      with_reducible refine C1.out.mono ?_
      rintro e W1 ⟨v, rfl, ho, b1⟩
      replace X3 := hid (X3.out.below b1)
      replace IN := hid (INB.out _ _ IN.out b1)
      replace B := hid (B.out.trans (b1.mono B.out.size))
      clear C1 LD b1 NS
      by_cases hE : ES = 0
      · subst hE
        have o := ho rfl
        obtain ⟨va, vc, rfl⟩ := o.form
        have C2 := hid (DS.out (by trivial) W1 va vc o.holds)
        clear o ho DS
        generalize BS.length = N at *
        go_wp2_with fail
        with_reducible refine C2.out.mono ?_
        rintro e W2 ⟨cs, rfl, oc, hcs, hon, b1⟩
        replace X3 := hid (X3.out.below b1)
        replace IN := hid (INB.out _ _ IN.out b1)
        replace B := hid (B.out.trans (b1.mono B.out.size))
        have b2 := (Below.refl W2.heap.size W2).alloc (Nat.le_refl _) (.cells cs 54)
        have Xc := hid (Blk.alloc W2 cs (54))
        have hsz : (Try.prog.info? 54).map (·.size) = some cs.size := by rw [hcs]; exact sizeSta
        have O := hid (VS.out _ _ _ _ oc b2)
        replace X3 := hid (X3.out.below b2)
        replace IN := hid (INB.out _ _ IN.out b2)
        replace B := hid (B.out.trans (b2.mono B.out.size))
        have HO := hid hon
        have HC := hid hcs
        have HS := hid hsz
        clear C2 b1 b2 oc hon hsz hcs
        go_upto_region 16 with (refine wpList_store_row rfl 54 (.tmp 21) (.tmp 86) rfl W2.heap.size cs rfl rfl 54 _ (heap_alloc_new W2 _) HS.out (by rw [HC.out]; rfl) HO.out ?_)
        rw [alloc_row]
        generalize W2.alloc (.cells cs 54) = W3 at *
        generalize W2.heap.size = Q at *
        have C3 := hid (MS.out (by trivial) _ W3 cs O.out IN.out.2.2.1)
        have LD1 := Xc.out.loadAt Try.underlying54 rfl HS.out
        have LD2 := X3.out.loadAt Try.underlying54 rfl zS.out
        clear Xc X3 O HO HC HS MS VS zS
        go_wp2_with (first | refine wpList_load_at 54 rfl (.tmp 21) rfl _ _ rfl _ LD1 ?_ | refine wpList_load_at 54 rfl (.tmp 6) rfl _ _ rfl _ LD2 ?_)
        with_reducible refine C3.out.mono ?_
        rintro e W4 ⟨rfl, b1⟩
        replace IN := hid (INB.out _ _ IN.out b1)
        replace B := hid (B.out.trans (b1.mono B.out.size))
        clear C3 LD1 LD2 b1
        have C1 := hid (WR.out W4 IN.out.2.2.2)
        go_wp2_with fail
        with_reducible refine C1.out.mono ?_
        rintro e W9 ⟨rfl, b1⟩
        replace B := hid (B.out.trans (b1.mono B.out.size))
        clear C1 b1
        go_wp2_with fail
        go_ret
        exact ⟨rfl, B.out⟩
      · have tE : (ES == 0) = false := by simpa using hE
        clear hE ho X3 MS VS zS DS
        have C1 := hid (WR.out W1 IN.out.2.2.2)
        go_wp2_with fail
        with_reducible refine C1.out.mono ?_
        rintro e W9 ⟨rfl, b1⟩
        replace B := hid (B.out.trans (b1.mono B.out.size))
        clear C1 b1
        go_wp2_with fail
        go_ret
        exact ⟨rfl, B.out⟩
    · have tE : (EA == 0) = false := by simpa using hE
      clear hE ho X2 MA VA zA DA
      have C1 := hid (NS.out W1 IN.out.2.2.1)
      have LD := X3.out.loadAt Try.underlying54 rfl zS.out
      go_wp2_with (refine wpList_load_at 54 rfl (.tmp 6) rfl _ _ rfl _ LD ?_)
      with_reducible refine C1.out.mono ?_
      rintro e W1 ⟨v, rfl, ho, b1⟩
      replace X3 := hid (X3.out.below b1)
      replace IN := hid (INB.out _ _ IN.out b1)
      replace B := hid (B.out.trans (b1.mono B.out.size))
      clear C1 LD b1 NS
      by_cases hE : ES = 0
      · subst hE
        have o := ho rfl
        obtain ⟨va, vc, rfl⟩ := o.form
        have C2 := hid (DS.out (by trivial) W1 va vc o.holds)
        clear o ho DS
        generalize BS.length = N at *
        go_wp2_with fail
        with_reducible refine C2.out.mono ?_
        rintro e W2 ⟨cs, rfl, oc, hcs, hon, b1⟩
        replace X3 := hid (X3.out.below b1)
        replace IN := hid (INB.out _ _ IN.out b1)
        replace B := hid (B.out.trans (b1.mono B.out.size))
        have b2 := (Below.refl W2.heap.size W2).alloc (Nat.le_refl _) (.cells cs 54)
        have Xc := hid (Blk.alloc W2 cs (54))
        have hsz : (Try.prog.info? 54).map (·.size) = some cs.size := by rw [hcs]; exact sizeSta
        have O := hid (VS.out _ _ _ _ oc b2)
        replace X3 := hid (X3.out.below b2)
        replace IN := hid (INB.out _ _ IN.out b2)
        replace B := hid (B.out.trans (b2.mono B.out.size))
        have HO := hid hon
        have HC := hid hcs
        have HS := hid hsz
        clear C2 b1 b2 oc hon hsz hcs
        go_upto_region 16 with (refine wpList_store_row rfl 54 (.tmp 21) (.tmp 86) rfl W2.heap.size cs rfl rfl 54 _ (heap_alloc_new W2 _) HS.out (by rw [HC.out]; rfl) HO.out ?_)
        rw [alloc_row]
        generalize W2.alloc (.cells cs 54) = W3 at *
        generalize W2.heap.size = Q at *
        have C3 := hid (MS.out (by trivial) _ W3 cs O.out IN.out.2.2.1)
        have LD1 := Xc.out.loadAt Try.underlying54 rfl HS.out
        have LD2 := X3.out.loadAt Try.underlying54 rfl zS.out
        clear Xc X3 O HO HC HS MS VS zS
        go_wp2_with (first | refine wpList_load_at 54 rfl (.tmp 21) rfl _ _ rfl _ LD1 ?_ | refine wpList_load_at 54 rfl (.tmp 6) rfl _ _ rfl _ LD2 ?_)
        with_reducible refine C3.out.mono ?_
        rintro e W4 ⟨rfl, b1⟩
        replace IN := hid (INB.out _ _ IN.out b1)
        replace B := hid (B.out.trans (b1.mono B.out.size))
        clear C3 LD1 LD2 b1
        have C1 := hid (WR.out W4 IN.out.2.2.2)
        go_wp2_with fail
        with_reducible refine C1.out.mono ?_
        rintro e W9 ⟨rfl, b1⟩
        replace B := hid (B.out.trans (b1.mono B.out.size))
        clear C1 b1
        go_wp2_with fail
        go_ret
        exact ⟨rfl, B.out⟩
      · have tE : (ES == 0) = false := by simpa using hE
        clear hE ho X3 MS VS zS DS
        have C1 := hid (WR.out W1 IN.out.2.2.2)
        go_wp2_with fail
        with_reducible refine C1.out.mono ?_
        rintro e W9 ⟨rfl, b1⟩
        replace B := hid (B.out.trans (b1.mono B.out.size))
        clear C1 b1
        go_wp2_with fail
        go_ret
        exact ⟨rfl, B.out⟩

theorem walk (gp cl sq kd ci ir bt si : Int) (q : Q7) (n : N5) (t : T7) (er at' an : Int) (ca : Option Addr) (cn cc : Nat) (co : List Int) (ra : Option Addr) (rn rc : Nat) (rs : List Le) (lo pa no : Int) (qa : Option Addr) (qn qc : Nat) (qs : List Q7) (na : Option Addr) (nn nc : Nat) (ns : List N5) (ta : Option Addr) (tn tc : Nat) (ts : List T7) (la : Option Addr) (ln lc : Nat) (ls : List Le) (ha : Option Addr) (hn hc : Nat) (hs : List H2) (ba : Option Addr) (bn bc : Nat) (z : List Int) (w : World) (ht : HoldsN w t.sa t.sl t.sc t.tk) (hk : (I64 gp ∧ I64 cl ∧ I64 sq) ∧ (I64 kd ∧ I64 ci ∧ I64 ir ∧ I64 bt ∧ I64 si) ∧ q.ok ∧ n.ok ∧ t.ok) (hi : I64 er ∧ I64 at' ∧ I64 an) (hco : HoldsN w ca cn cc co) (hcx : ∀ x ∈ co, I64 x) (hrs : HoldsE 8 Le.cs w ra rn rc rs) (hra : LeAll w rs) (hj : I64 lo ∧ I64 pa ∧ I64 no) (hq : HoldsE 7 Q7.cs w qa qn qc qs ∧ ∀ x ∈ qs, x.ok) (hm : HoldsE 5 N5.cs w na nn nc ns ∧ ∀ x ∈ ns, x.ok) (hts : HoldsE 7 T7.cs w ta tn tc ts ∧ TaAll w ts) (hl : HoldsE 8 Le.cs w la ln lc ls ∧ LeAll w ls) (hg : HoldsE 2 H2.cs w ha hn hc hs ∧ ∀ x ∈ hs, x.ok) (hb : IsRow .u8 w ba bn bc z) :
    Calls Try.prog 7 #[.agg #[.int .i64 gp, .int .i64 cl, .int .i64 sq, .int .i64 kd, .int .i64 ci, .int .i64 ir, .int .i64 bt, .int .i64 si, .int .i64 q.a, .int .i64 q.b, .int .i64 q.c, .int .i64 q.d, .int .i64 q.e, .int .i64 q.f, .int .i64 q.g, .int .i64 n.a, .int .i64 n.b, .int .i64 n.c, .int .i64 n.d, .int .i64 n.e, .int .i64 t.t1, .int .i64 t.t2, .int .i64 t.c, .int .i64 t.m, .int .i64 t.wk, .slice t.sa t.sl t.sc, .int .i64 t.st], .agg #[.int .i64 er, .int .i64 at', .int .i64 an, .slice ca cn cc, .slice ra rn rc], .agg #[.int .i64 lo, .int .i64 pa, .int .i64 no, .slice qa qn qc, .slice na nn nc, .slice ta tn tc, .slice la ln lc, .slice ha hn hc], .slice ba bn bc] w fun e w' => e = .returned (.bool true) ∧ Below w.heap.size w w' := by
  obtain ⟨⟨h1, h2, h3⟩, ⟨h4, h5, h6, h7, h8⟩, ⟨r1, r2, r3, r4, r5, r6, r7⟩, ⟨s1, s2, s3, s4, s5⟩, ⟨u1, u2, u3, u4, u5, u6⟩, hx⟩ := hk
  exact main gp cl sq kd ci ir bt si q.a q.b q.c q.d q.e q.f q.g n.a n.b n.c n.d n.e t.t1 t.t2 t.c t.m t.wk t.st t.sa t.sl t.sc t.tk er at' an ca cn cc co ra rn rc rs lo pa no qa qn qc qs na nn nc ns ta tn tc ts la ln lc ls ha hn hc hs ba bn bc _ w h1 h2 h3 h4 h5 h6 h7 h8 r1 r2 r3 r4 r5 r6 r7 s1 s2 s3 s4 s5 u1 u2 u3 u4 u5 u6 hx hi hcx hj hq.2 hm.2 hg.2 ht ⟨hco, hrs, hra⟩ ⟨hq.1, hm.1, hts, hl, hg.1⟩ (holdsB_row hb)

theorem own : ownKnob Try.prog.godebug = none := by kernel_rfl
theorem laidOut : laidOutB Try.prog = true := by kernel_rfl

set_option maxRecDepth 100000 in
theorem lifted (os : Os) (started : os.Started) (H : Type) (enc : TypeId × Value → H) :
    ReturnsInHanded {} Try.checked os 7 .any (Rows.commandBackSpec.pre6 enc Try.prog Try.f7 Rows.commandBackRow.domain false) (Rows.commandBackSpec.post enc Try.prog Try.f7 false true false false) := by
  refine returnsInHanded_of_change (C := Try.checked) own started (by kernel_rfl) Try.func7
    (ChangeSpec.witness6 (enc := enc) (C := Try.checked) false ⟨#[], #[.agg #[.int .i64 0, .int .i64 0, .int .i64 0, .int .i64 0, .int .i64 0, .int .i64 0, .int .i64 0, .int .i64 0, .int .i64 0, .int .i64 0, .int .i64 0, .int .i64 0, .int .i64 0, .int .i64 0, .int .i64 0, .int .i64 0, .int .i64 0, .int .i64 0, .int .i64 0, .int .i64 0, .int .i64 0, .int .i64 0, .int .i64 0, .int .i64 0, .int .i64 0, .slice none 0 0, .int .i64 0], .agg #[.int .i64 0, .int .i64 0, .int .i64 0, .slice none 0 0, .slice none 0 0], .agg #[.int .i64 0, .int .i64 0, .int .i64 0, .slice none 0 0, .slice none 0 0, .slice none 0 0, .slice none 0 0, .slice none 0 0], .slice none 0 0], []⟩ 8 (by kernel_rfl) (by kernel_rfl) (by kernel_rfl) (by kernel_rfl)) ?_
  intro W base args ds gs before hval0 hW hcnd _
  have hval : ∀ (j : Nat) t v, Try.f7.params[j]? = some t → args[j]? = some v → Value.okWide Try.prog W .any base t v := hval0
  have hW' := hW
  obtain ⟨p, q, hA0, hV, rfl, hfz, hnd⟩ := hW
  have hA : DataW.TrodAll enc Try.prog W 0 (fun _ => true) true Try.f7.params.toList args.toList ds p := hA0
  rw [Try.params7] at hA hval
  obtain ⟨v0, vs0, d0, ds0, p0, q0, hargs, rfl, rfl, h0, r0⟩ := trodAll_cons hA
  obtain ⟨v1, vs1, d1, ds1, p1, q1, rfl, rfl, rfl, h1, r1⟩ := trodAll_cons r0
  obtain ⟨v2, vs2, d2, ds2, p2, q2, rfl, rfl, rfl, h2, r2⟩ := trodAll_cons r1
  obtain ⟨v3, vs3, d3, ds3, p3, q3, rfl, rfl, rfl, h3, r3⟩ := trodAll_cons r2
  obtain ⟨rfl, rfl, rfl⟩ := trodAll_nil r3
  obtain rfl : args = #[v0, v1, v2, v3] := by cases args; simp_all
  obtain ⟨rfl, rfl⟩ := trodVars_none hV
  have lt0 : ∀ x ∈ p0, x.block < W.heap.size := by obtain ⟨m, hm⟩ := h0; exact DataW.trod_lt m _ _ _ hm
  have lt1 : ∀ x ∈ p1, x.block < W.heap.size := by obtain ⟨m, hm⟩ := h1; exact DataW.trod_lt m _ _ _ hm
  have lt2 : ∀ x ∈ p2, x.block < W.heap.size := by obtain ⟨m, hm⟩ := h2; exact DataW.trod_lt m _ _ _ hm
  have lt3 : ∀ x ∈ p3, x.block < W.heap.size := by obtain ⟨m, hm⟩ := h3; exact DataW.trod_lt m _ _ _ hm
  obtain ⟨gp0, cl0, sq0, kd0, ci0, ir0, bt0, si0, q0, n0, t0, rfl, w0, k0, sz0⟩ := val_entry (hval 0 34 v0 rfl rfl) h0
  obtain ⟨er1, at1, an1, ca1, cn1, cc1, co1, la1, ln1, lc1, ls1, rfl, w1, c1, x1, l1, k1⟩ := val_answer (hval 1 46 v1 rfl rfl) h1
  obtain ⟨lo2, pa2, no2, qa2, qn2, qc2, qs2, na2, nn2, nc2, ns2, ta2, tn2, tc2, ts2, la2, ln2, lc2, ls2, ha2, hn2, hc2, hs2, rfl, w2, q2, m2, t2, l2, g2, sz2⟩ := val_state (hval 2 54 v2 rfl rfl) h2
  obtain ⟨a3, len3, cap3, rfl⟩ := okWide_slice Try.underlying37 (hval 3 37 v3 rfl rfl)
  obtain ⟨z3, w3⟩ := val_row Try.underlying37 Try.underlying5 (by kernel_rfl) h3
  clear hA0 hval0
  refine (walk gp0 cl0 sq0 kd0 ci0 ir0 bt0 si0 q0 n0 t0 er1 at1 an1 ca1 cn1 cc1 co1 la1 ln1 lc1 ls1 lo2 pa2 no2 qa2 qn2 qc2 qs2 na2 nn2 nc2 ns2 ta2 tn2 tc2 ts2 la2 ln2 lc2 ls2 ha2 hn2 hc2 hs2 a3 len3 cap3 z3 W w0 k0 w1 c1 x1 l1 k1 w2 q2 m2 t2 l2 g2 w3).mono fun e W' ⟨he, bel⟩ => ?_
  subst he
  exact ⟨_, rfl, _, _, _, [], _, [], hW', trodAll_mk1 (shut_bool Try.underlying4 _), (trodAll_cons_mk (Below.trod laidOut (by kernel_rfl) (of_decide_eq_true (by kernel_rfl)) h0 bel lt0) (trodAll_cons_mk (Below.trod laidOut (by kernel_rfl) (of_decide_eq_true (by kernel_rfl)) h1 bel lt1) (trodAll_cons_mk (Below.trod laidOut (by kernel_rfl) (of_decide_eq_true (by kernel_rfl)) h2 bel lt2) (trodAll_cons_mk (Below.trod laidOut (by kernel_rfl) (of_decide_eq_true (by kernel_rfl)) h3 bel lt3) trodAll_mk0)))), rfl, bel.frame _, fun h => by cases h⟩

theorem over : Rows.commandBackRow.holds Try.pinned (OpenSpec.ofChange Rows.commandBackSpec) :=
  OpenClaim.holds_of_wide 7 Try.f7 rfl rfl rfl rfl rfl rfl rfl ⟨rfl, rfl, rfl, rfl, rfl⟩ rfl rfl rfl rfl rfl (by kernel_rfl) Try.func7 (by kernel_rfl)
    (of_decide_eq_true (by kernel_rfl)) (by unfold Func.isWrapper; first | (rw [if_pos (by decide +kernel)]; kernel_rfl) | (rw [if_neg (by decide +kernel)]; exact ⟨rfl, rfl⟩))
    (fun os started H enc _ => lifted os started H enc)

theorem proved : Rows.CommandBackSaid := over
#print axioms proved
end Go.Proofs.Ythkbddnkcljjpaa.commandBack
