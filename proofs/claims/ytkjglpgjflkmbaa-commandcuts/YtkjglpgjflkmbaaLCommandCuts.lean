/- CommandCuts: for every entry, every place and every byte the law answers true, and the entry reads as it did. No further conditions. -/
import Derived.Test.YtkjglpgjflkmbaaMCZ
import Derived.Test.YtkjglpgjflkmbaaMCM
import Derived.Test.YtkjglpgjflkmbaaCZV
import Derived.Deep.CutBlock
namespace Go.Proofs.Ytkjglpgjflkmbaa.commandCuts
open Go.ChangeShapes Go.WideShapes Go.ChangeAt Go.RowKit Go.Deep Go.Maps
set_option linter.unusedVariables false
set_option linter.unusedSimpArgs false

theorem entZ_len (gp cl sq kd ci ir bt si q1 q2 q3 q4 q5 q6 q7 n1 n2 n3 n4 n5 t1 t2 c m wk st : Int) (tk : List Int) : 0 < (entZ gp cl sq (cmdZ kd ci ir bt si (bytesZ [q1, q2, q3, q4, q5, q6, q7]) (bytesZ [n1, n2, n3, n4, n5]) (taskZ t1 t2 c m wk tk st))).length ∧ (entZ gp cl sq (cmdZ kd ci ir bt si (bytesZ [q1, q2, q3, q4, q5, q6, q7]) (bytesZ [n1, n2, n3, n4, n5]) (taskZ t1 t2 c m wk tk st))).length ≤ 9600 := by
  have h1 := bytesZ_len [gp, cl, sq]
  have h2 := bytesZ_len [ci, ir, bt, si]
  have h3 := bytesZ_len [q1, q2, q3, q4, q5, q6, q7]
  have h4 := bytesZ_len [n1, n2, n3, n4, n5]
  have h5 := taskZ_len t1 t2 c m wk tk st
  have h6 : (kindZ kd).length ≤ 9 := by
    unfold kindZ
    split
    · simp
    · rw [numB_len]; have := shelf_le kd; omega
  have h7 : 0 < (bytesZ [gp, cl, sq]).length := by
    have e : bytesZ [gp, cl, sq] = numB (zig gp) ++ bytesZ [cl, sq] := rfl
    rw [e, List.length_append, numB_len]; omega
  unfold entZ cmdZ
  simp only [List.length_append, List.length_cons, List.length_nil] at *
  omega
theorem holdsB_take {w : World} {a : Option Addr} {n c q : Nat} {l : List Int} (h : HoldsB w a n c l) (hq : q ≤ n) (ha : a ≠ none) : HoldsB w a q c (l.take q) := by
  obtain ⟨h1, h2, h3, h4, h5, h6, h7⟩ := h
  refine ⟨by rw [List.length_take]; omega, by omega, by omega, h4, h5.take q, fun e => absurd e ha, fun hp => ?_⟩
  obtain ⟨b, o, e, hc⟩ := h7 (by omega)
  refine ⟨b, o, e, fun j hj => ?_⟩
  rw [hc j (by omega), List.getElem?_take_of_lt hj]

section
variable {ops : Array Oper} {rest : List Oper} {op : Oper} {a : Act} {w : World} {Q : Exit → Act → World → Prop}
theorem wpList_builtw (hw : Region.wanted op (yielded ops a.tmps) = true) (t : TypeId) (parts : Array (Nat × Operand)) (ho : op.op = .build t parts) (cs : Array Value) (hb : Try.prog.built t (parts.map fun (i, x) => (i, a.eval x)).toList = some cs)
    (h : wpList Try.prog ops Q rest (a.put op.dst (.agg cs)) w) : wpList Try.prog ops Q (op :: rest) a w := by
  refine Go.BigFrame.wpList_want hw fun _ hK => ?_
  refine wp_build t parts ho (by rw [hb]; rfl) ?_
  rw [hb]
  exact hK _ _ h
end
set_option maxRecDepth 100000 in
set_option maxHeartbeats 16000000 in
theorem walk1 (gp cl sq kd ci ir bt si q1 q2 q3 q4 q5 q6 q7 n1 n2 n3 n4 n5 t1 t2 c m wk : Int) (ta : Option Addr) (tn tc : Nat) (tk : List Int) (st : Int) (ct mo : Int) (w : World) (igp : I64 gp) (icl : I64 cl) (isq : I64 sq) (ikd : I64 kd) (ici : I64 ci) (iir : I64 ir) (ibt : I64 bt) (isi : I64 si) (iq1 : I64 q1) (iq2 : I64 q2) (iq3 : I64 q3) (iq4 : I64 q4) (iq5 : I64 q5) (iq6 : I64 q6) (iq7 : I64 q7) (in1 : I64 n1) (in2 : I64 n2) (in3 : I64 n3) (in4 : I64 n4) (in5 : I64 n5) (it1 : I64 t1) (it2 : I64 t2) (ic : I64 c) (im : I64 m) (iwk : I64 wk) (ist : I64 st) (ht : HoldsN w ta tn tc tk) (hx : ∀ x ∈ tk, I64 x) (hct : I64 ct) (hmo : 0 ≤ mo ∧ mo ≤ 255) :
    Calls Try.prog 8 #[.agg #[.int .i64 gp, .int .i64 cl, .int .i64 sq, .int .i64 kd, .int .i64 ci, .int .i64 ir, .int .i64 bt, .int .i64 si, .int .i64 q1, .int .i64 q2, .int .i64 q3, .int .i64 q4, .int .i64 q5, .int .i64 q6, .int .i64 q7, .int .i64 n1, .int .i64 n2, .int .i64 n3, .int .i64 n4, .int .i64 n5, .int .i64 t1, .int .i64 t2, .int .i64 c, .int .i64 m, .int .i64 wk, .slice ta tn tc, .int .i64 st], .int .i64 ct, .int .u8 mo] w fun e w' => e = .returned (.bool true) ∧ Below w.heap.size w w' := by
  have htl := ht.1
  have ENC := hid (fun W (H : HoldsN W ta tn tc tk) => encentry_any gp cl sq kd ci ir bt si q1 q2 q3 q4 q5 q6 q7 n1 n2 n3 n4 n5 t1 t2 c m wk ta tn tc tk st W igp icl isq ikd ici iir ibt isi iq1 iq2 iq3 iq4 iq5 iq6 iq7 in1 in2 in3 in4 in5 it1 it2 ic im iwk ist H hx)
  have RD := hid (fun L suf l (hL : L = entZ gp cl sq (cmdZ kd ci ir bt si (bytesZ [q1, q2, q3, q4, q5, q6, q7]) (bytesZ [n1, n2, n3, n4, n5]) (taskZ t1 t2 c m wk tk st)) ++ suf) hl (hE : encE tn kd = 0) => (ent_read (L := L) (suf := suf) gp cl sq kd ci ir bt si q1 q2 q3 q4 q5 q6 q7 n1 n2 n3 n4 n5 t1 t2 c m wk st tk l hL hl (by rw [htl]; exact hE) igp icl isq ikd ici iir ibt isi iq1 iq2 iq3 iq4 iq5 iq6 iq7 in1 in2 in3 in4 in5 it1 it2 ic im iwk ist hx).1)
  have LN := hid (entZ_len gp cl sq kd ci ir bt si q1 q2 q3 q4 q5 q6 q7 n1 n2 n3 n4 n5 t1 t2 c m wk st tk)
  have Z0 := hid (fun W => sent_any 0 0 0 0 0 0 0 0 0 0 0 0 0 0 0 0 0 0 0 0 0 0 0 0 0 0 none none 0 0 0 [] W (holdsN_nil W) (holdsN_nil W) (by omega))
  clear igp icl isq ikd ici iir ibt isi iq1 iq2 iq3 iq4 iq5 iq6 iq7 in1 in2 in3 in4 in5 it1 it2 ic im iwk ist hx htl
  generalize entZ gp cl sq (cmdZ kd ci ir bt si (bytesZ [q1, q2, q3, q4, q5, q6, q7]) (bytesZ [n1, n2, n3, n4, n5]) (taskZ t1 t2 c m wk tk st)) = BS at *
  generalize hee : encE tn kd = EE at *
  go_enter Try.func8, Try.ntmps8
  go_upto_region 1 with fail
  have B0 := hid ((Below.refl w.heap.size w).alloc (Nat.le_refl _) (.cells #[.int .i64 gp, .int .i64 cl, .int .i64 sq, .int .i64 kd, .int .i64 ci, .int .i64 ir, .int .i64 bt, .int .i64 si, .int .i64 q1, .int .i64 q2, .int .i64 q3, .int .i64 q4, .int .i64 q5, .int .i64 q6, .int .i64 q7, .int .i64 n1, .int .i64 n2, .int .i64 n3, .int .i64 n4, .int .i64 n5, .int .i64 t1, .int .i64 t2, .int .i64 c, .int .i64 m, .int .i64 wk, .slice ta tn tc, .int .i64 st] 34))
  have X1 := hid (Blk.alloc w #[.int .i64 gp, .int .i64 cl, .int .i64 sq, .int .i64 kd, .int .i64 ci, .int .i64 ir, .int .i64 bt, .int .i64 si, .int .i64 q1, .int .i64 q2, .int .i64 q3, .int .i64 q4, .int .i64 q5, .int .i64 q6, .int .i64 q7, .int .i64 n1, .int .i64 n2, .int .i64 n3, .int .i64 n4, .int .i64 n5, .int .i64 t1, .int .i64 t2, .int .i64 c, .int .i64 m, .int .i64 wk, .slice ta tn tc, .int .i64 st] (34))
  have HT := hid (ht.below B0.out)
  clear ht hee
  generalize (w.alloc (.cells #[.int .i64 gp, .int .i64 cl, .int .i64 sq, .int .i64 kd, .int .i64 ci, .int .i64 ir, .int .i64 bt, .int .i64 si, .int .i64 q1, .int .i64 q2, .int .i64 q3, .int .i64 q4, .int .i64 q5, .int .i64 q6, .int .i64 q7, .int .i64 n1, .int .i64 n2, .int .i64 n3, .int .i64 n4, .int .i64 n5, .int .i64 t1, .int .i64 t2, .int .i64 c, .int .i64 m, .int .i64 wk, .slice ta tn tc, .int .i64 st] 34)) = W0 at *
  have AW := hid (awake10_any W0)
  go_wp2_with fail
  with_reducible refine AW.out.mono ?_
  rintro e W1 ⟨rfl, b1⟩
  replace X1 := hid (X1.out.below b1)
  replace HT := hid (HT.out.below b1)
  replace B0 := hid (B0.out.trans (b1.mono B0.out.size))
  clear AW b1
  have LD := X1.out.loadAt Try.underlying34 rfl sizeEnt
  have C1 := hid (ENC.out W1 HT.out)
  go_wp2_with (refine wpList_load_at 34 rfl (.tmp 3) rfl _ _ rfl _ LD ?_)
  with_reducible refine C1.out.mono ?_
  rintro e W2 ⟨v4, rfl, g4, g4', b2⟩
  replace B0 := hid (B0.out.trans (b2.mono B0.out.size))
  have G4 := hid g4
  have G4' := hid g4'
  clear LD C1 b2 g4 g4' ENC X1 HT
  by_cases hz : EE = 0
  case neg =>
    have e4 := G4'.out hz
    subst e4
    have tE : (EE != 0) = true := by simpa using hz
    clear hz G4 G4' RD LN Z0
    go_wp2_with fail
    go_ret
    exact ⟨rfl, B0.out⟩
  subst hz
  have O4 := G4.out rfl
  obtain ⟨a4, c4, rfl⟩ := O4.form
  have HB := hid O4.holds
  clear G4 G4' O4
  have ln1 := LN.out.1
  have ln2 := LN.out.2
  have RDX := hid (fun q (hq : q < BS.length) => RD.out BS [] (BS.take q) (List.append_nil BS).symm (List.take_prefix q BS) rfl)
  have RDE := hid (RD.out (BS ++ [mo]) [mo] (BS ++ [mo]) rfl ⟨[], by simp⟩ rfl)
  have hbl := HB.out.1
  generalize hN : BS.length = N at *
  have HN := hid hN
  clear hN RD LN
  have nz : ((N : Int) == 0) = false := by
    have : ¬ (N : Int) = 0 := by omega
    simpa using this
  obtain ⟨b4, o4, rfl, _⟩ := HB.out.2.2.2.2.2.2 ln1
  have hcap := HB.out.2.2.1
  have hcm := HB.out.2.2.2.1
  go_upto_region 6 with fail
  go_cut [38] from 31 to 37 (fun v38 wx => v38 = .bool (decide (ct < 0 ∨ (N : Int) ≤ ct)) ∧ W2 = wx)
  case first =>
    have i1 := hct.1
    have i2 := hct.2
    by_cases c1 : ct < 0
    · have t1 : decide (ct < 0) = true := by simp; omega
      go_wp2_with fail
      go_meet
      exact ⟨by simp; omega, rfl⟩
    · have t1 : decide (ct < 0) = false := by simp; omega
      by_cases c2 : ct < (N : Int)
      · have t2 : decide ((N : Int) ≤ ct) = false := by simp; omega
        go_wp2_with fail
        go_meet
        exact ⟨by simp; omega, rfl⟩
      · have t2 : decide ((N : Int) ≤ ct) = true := by simp; omega
        go_wp2_with fail
        go_meet
        exact ⟨by simp; omega, rfl⟩
  case rest =>
  obtain ⟨rfl, rfl⟩ := hcut
  go_upto_if 38 with fail
  have hN1 : ((N - 1 : Nat) : Int) = (N : Int) - 1 := by omega
  go_cut [1] from 39 to 41 (fun v1 wx => ∃ q : Nat, q < N ∧ v1 = .int .i64 (q : Int) ∧ W2 = wx)
  case first =>
    by_cases c1 : ct < 0 ∨ (N : Int) ≤ ct
    · have t1 : decide (ct < 0 ∨ (N : Int) ≤ ct) = true := decide_eq_true c1
      go_wp2_with fail
      go_meet
      exact ⟨N - 1, by omega, by rw [hN1], rfl⟩
    · have t1 : decide (ct < 0 ∨ (N : Int) ≤ ct) = false := decide_eq_false c1
      go_wp2_with fail
      go_meet
      exact ⟨ct.toNat, by omega, by rw [Int.toNat_of_nonneg (by omega)], rfl⟩
  case rest =>
    obtain ⟨q, hq, rfl, rfl⟩ := hcut
    have HQ := hid (holdsB_take HB.out (show q ≤ N by omega) (by simp))
    have ED : Hid ((enE (BS.take q) 0 0).2 = ((q : Int), 5)) := by
      have hlq : (BS.take q).length = q := by rw [List.length_take, HN.out]; omega
      rcases RDX.out q hq with ⟨_, _, h3⟩ | ⟨h1, h2, _⟩
      · omega
      · exact Prod.ext (by rw [h2, hlq]) h1
    have EX : Hid ((enE (BS ++ [mo]) 0 0).2 = ((N : Int), 0)) := by
      have hl1 : (BS ++ [mo]).length = N + 1 := by rw [List.length_append, HN.out]; rfl
      rcases RDE.out with ⟨h1, h2, _⟩ | ⟨_, _, h3⟩
      · exact Prod.ext h2 h1
      · omega
    clear RDX RDE
    have C2 := hid (decentry_any (some ⟨b4, o4, none⟩) q c4 (BS.take q) W2 HQ.out)
    rw [ED.out, show endT q (((q : Int), 5) : Int × Int).1 (((q : Int), 5) : Int × Int).2 = ((q : Int), 5) from by unfold endT; rw [if_neg (by omega)]] at C2
    have q0 : (0 : Int) ≤ (q : Int) := by omega
    have q1 : (q : Int) ≤ (c4 : Int) := by omega
    go_wp2_with fail
    with_reducible refine C2.out.mono ?_
    rintro e W3 ⟨cs, rfl, hc0, _, hcz, hon, b3⟩
    have hcs := hc0 (by decide)
    subst hcs
    clear hc0 hcz hon
    go_upto_region 9 with (refine wpList_store_row rfl 34 (.tmp 9) (.tmp 47) rfl W3.heap.size #[.int .i64 0, .int .i64 0, .int .i64 0, .int .i64 0, .int .i64 0, .int .i64 0, .int .i64 0, .int .i64 0, .int .i64 0, .int .i64 0, .int .i64 0, .int .i64 0, .int .i64 0, .int .i64 0, .int .i64 0, .int .i64 0, .int .i64 0, .int .i64 0, .int .i64 0, .int .i64 0, .int .i64 0, .int .i64 0, .int .i64 0, .int .i64 0, .int .i64 0, .slice none 0 0, .int .i64 0] rfl rfl 34 _ (heap_alloc_new W3 _) sizeEnt rfl (by simp [Value.oneCell']) ?_)
    rw [alloc_row]
    have b4' := (Below.refl W3.heap.size W3).alloc (Nat.le_refl _) (.cells #[.int .i64 0, .int .i64 0, .int .i64 0, .int .i64 0, .int .i64 0, .int .i64 0, .int .i64 0, .int .i64 0, .int .i64 0, .int .i64 0, .int .i64 0, .int .i64 0, .int .i64 0, .int .i64 0, .int .i64 0, .int .i64 0, .int .i64 0, .int .i64 0, .int .i64 0, .int .i64 0, .int .i64 0, .int .i64 0, .int .i64 0, .int .i64 0, .int .i64 0, .slice none 0 0, .int .i64 0] 34)
    have HB3 := hid ((HB.out.below b3).below b4')
    have B3 := hid (B0.out.trans ((b3.mono B0.out.size).trans (b4'.mono (Nat.le_trans B0.out.size b3.size))))
    clear C2 HQ HB b3 b4' B0
    generalize W3.alloc (.cells #[.int .i64 0, .int .i64 0, .int .i64 0, .int .i64 0, .int .i64 0, .int .i64 0, .int .i64 0, .int .i64 0, .int .i64 0, .int .i64 0, .int .i64 0, .int .i64 0, .int .i64 0, .int .i64 0, .int .i64 0, .int .i64 0, .int .i64 0, .int .i64 0, .int .i64 0, .int .i64 0, .int .i64 0, .int .i64 0, .int .i64 0, .int .i64 0, .int .i64 0, .slice none 0 0, .int .i64 0] 34) = W4 at *
    generalize W3.heap.size = QX at *
    have O0 := hid (own_lit W4)
    have HB4 := hid (HB3.out.below ((Below.refl _ _).alloc (Nat.le_refl _) (.cells #[] 5)))
    have B4 := hid (B3.out.alloc B3.out.size (.cells #[] 5))
    have s4 : Hid (W4.heap.size ≤ (W4.alloc (.cells #[] 5)).heap.size) := by unfold Hid; simp
    go_wp2_with (at_builtin; refine cat_own (W4.alloc (.cells #[] 5)) rfl (.tmp 51) (.tmp 52) rfl W4.heap.size 0 (.slice (some ⟨W4.heap.size, 0, none⟩) 0 0) [] rfl O0.out s4.out (some ⟨b4, o4, none⟩) N c4 BS rfl HB4.out (by omega) ?_)
    intro v5 W5 h5 b5
    have O5 : Hid (Own W4.heap.size W5 v5 N BS) := by unfold Hid; simpa using h5
    have B5 := hid (B4.out.trans (b5.mono B3.out.size))
    have s5 : Hid (W4.heap.size ≤ W5.heap.size) := Nat.le_trans s4.out b5.size
    clear h5 b5 O0 HB4 B4 s4 HB3
    have m0 := hmo.1
    have m1 := hmo.2
    go_wp2_with (at_builtin; refine push_own W5 mo rfl (.tmp 53) (.tmp 55) rfl W4.heap.size N v5 BS rfl O5.out s5.out rfl m0 m1 (by omega) ?_)
    intro v6 W6 h6 b6
    obtain ⟨a6, c6, rfl⟩ := h6.form
    have HB6 := hid h6.holds
    have B6 := hid (B5.out.trans (b6.mono B3.out.size))
    clear h6 b6 O5 s5 B5
    have C3 := hid (decentry_any a6 (N + 1) c6 (BS ++ [mo]) W6 HB6.out)
    rw [EX.out, show endT (N + 1) (((N : Int), 0) : Int × Int).1 (((N : Int), 0) : Int × Int).2 = ((N : Int), 7) from by unfold endT; rw [if_pos rfl, if_pos (by show (N : Int) < ((N + 1 : Nat) : Int); omega)]] at C3
    go_wp2_with fail
    with_reducible refine C3.out.mono ?_
    rintro e W7 ⟨ds, rfl, hd0, _, hdz, hdn, b7⟩
    have hds := hd0 (by decide)
    subst hds
    have B7 := hid (B6.out.trans (b7.mono B6.out.size))
    clear C3 HB6 b7 hd0 hdz hdn B6
    go_upto_region 10 with (refine wpList_store_row rfl 34 (.tmp 12) (.tmp 58) rfl W7.heap.size #[.int .i64 0, .int .i64 0, .int .i64 0, .int .i64 0, .int .i64 0, .int .i64 0, .int .i64 0, .int .i64 0, .int .i64 0, .int .i64 0, .int .i64 0, .int .i64 0, .int .i64 0, .int .i64 0, .int .i64 0, .int .i64 0, .int .i64 0, .int .i64 0, .int .i64 0, .int .i64 0, .int .i64 0, .int .i64 0, .int .i64 0, .int .i64 0, .int .i64 0, .slice none 0 0, .int .i64 0] rfl rfl 34 _ (heap_alloc_new W7 _) sizeEnt rfl (by simp [Value.oneCell']) ?_)
    rw [alloc_row]
    have BZ := hid (Blk.alloc W7 #[.int .i64 0, .int .i64 0, .int .i64 0, .int .i64 0, .int .i64 0, .int .i64 0, .int .i64 0, .int .i64 0, .int .i64 0, .int .i64 0, .int .i64 0, .int .i64 0, .int .i64 0, .int .i64 0, .int .i64 0, .int .i64 0, .int .i64 0, .int .i64 0, .int .i64 0, .int .i64 0, .int .i64 0, .int .i64 0, .int .i64 0, .int .i64 0, .int .i64 0, .slice none 0 0, .int .i64 0] (34))
    have B8 := hid (B7.out.alloc B7.out.size (.cells #[.int .i64 0, .int .i64 0, .int .i64 0, .int .i64 0, .int .i64 0, .int .i64 0, .int .i64 0, .int .i64 0, .int .i64 0, .int .i64 0, .int .i64 0, .int .i64 0, .int .i64 0, .int .i64 0, .int .i64 0, .int .i64 0, .int .i64 0, .int .i64 0, .int .i64 0, .int .i64 0, .int .i64 0, .int .i64 0, .int .i64 0, .int .i64 0, .int .i64 0, .slice none 0 0, .int .i64 0] 34))
    generalize W7.alloc (.cells #[.int .i64 0, .int .i64 0, .int .i64 0, .int .i64 0, .int .i64 0, .int .i64 0, .int .i64 0, .int .i64 0, .int .i64 0, .int .i64 0, .int .i64 0, .int .i64 0, .int .i64 0, .int .i64 0, .int .i64 0, .int .i64 0, .int .i64 0, .int .i64 0, .int .i64 0, .int .i64 0, .int .i64 0, .int .i64 0, .int .i64 0, .int .i64 0, .int .i64 0, .slice none 0 0, .int .i64 0] 34) = W8 at *
    generalize W7.heap.size = QZ at *
    have C4 := hid (Z0.out W8)
    have LD := BZ.out.loadAt Try.underlying34 rfl sizeEnt
    go_wp2_with (first | refine wpList_load_at 34 rfl (.tmp 12) rfl _ _ rfl _ LD ?_ | refine wpList_builtw rfl 34 _ rfl #[.int .i64 0, .int .i64 0, .int .i64 0, .int .i64 0, .int .i64 0, .int .i64 0, .int .i64 0, .int .i64 0, .int .i64 0, .int .i64 0, .int .i64 0, .int .i64 0, .int .i64 0, .int .i64 0, .int .i64 0, .int .i64 0, .int .i64 0, .int .i64 0, .int .i64 0, .int .i64 0, .int .i64 0, .int .i64 0, .int .i64 0, .int .i64 0, .int .i64 0, .slice none 0 0, .int .i64 0] (by kernel_rfl) ?_)
    with_reducible refine C4.out.mono ?_
    rintro e W9 ⟨rfl, b9⟩
    have B9 := hid (B8.out.trans (b9.mono B8.out.size))
    clear C4 LD b9
    go_wp2_with fail
    go_ret
    exact ⟨rfl, B9.out⟩

theorem walk (gp0 cl0 sq0 kd0 ci0 ir0 bt0 si0 : Int) (q0 : Q7) (n0 : N5) (t0 : T7) (a1 a2 : Int) (w : World) (ht0 : HoldsN w t0.sa t0.sl t0.sc t0.tk) (hk0 : (I64 gp0 ∧ I64 cl0 ∧ I64 sq0) ∧ (I64 kd0 ∧ I64 ci0 ∧ I64 ir0 ∧ I64 bt0 ∧ I64 si0) ∧ q0.ok ∧ n0.ok ∧ t0.ok) (h1 : I64 a1) (h2 : U8 a2) :
    Calls Try.prog 8 #[.agg #[.int .i64 gp0, .int .i64 cl0, .int .i64 sq0, .int .i64 kd0, .int .i64 ci0, .int .i64 ir0, .int .i64 bt0, .int .i64 si0, .int .i64 q0.a, .int .i64 q0.b, .int .i64 q0.c, .int .i64 q0.d, .int .i64 q0.e, .int .i64 q0.f, .int .i64 q0.g, .int .i64 n0.a, .int .i64 n0.b, .int .i64 n0.c, .int .i64 n0.d, .int .i64 n0.e, .int .i64 t0.t1, .int .i64 t0.t2, .int .i64 t0.c, .int .i64 t0.m, .int .i64 t0.wk, .slice t0.sa t0.sl t0.sc, .int .i64 t0.st], .int .i64 a1, .int .u8 a2] w fun e w' => e = .returned (.bool true) ∧ Below w.heap.size w w' := by
  obtain ⟨⟨h01, h02, h03⟩, ⟨h04, h05, h06, h07, h08⟩, ⟨r01, r02, r03, r04, r05, r06, r07⟩, ⟨s01, s02, s03, s04, s05⟩, ⟨u01, u02, u03, u04, u05, u06⟩, hx0⟩ := hk0
  exact walk1 gp0 cl0 sq0 kd0 ci0 ir0 bt0 si0 q0.a q0.b q0.c q0.d q0.e q0.f q0.g n0.a n0.b n0.c n0.d n0.e t0.t1 t0.t2 t0.c t0.m t0.wk t0.sa t0.sl t0.sc t0.tk t0.st a1 a2 w h01 h02 h03 h04 h05 h06 h07 h08 r01 r02 r03 r04 r05 r06 r07 s01 s02 s03 s04 s05 u01 u02 u03 u04 u05 u06 ht0 hx0 h1 h2

theorem own : ownKnob Try.prog.godebug = none := by kernel_rfl
theorem laidOut : laidOutB Try.prog = true := by kernel_rfl

set_option maxRecDepth 100000 in
theorem lifted (os : Os) (started : os.Started) (H : Type) (enc : TypeId × Value → H) :
    ReturnsInHanded {} Try.checked os 8 .any (Rows.commandCutsSpec.pre6 enc Try.prog Try.f8 Rows.commandCutsRow.domain false) (Rows.commandCutsSpec.post enc Try.prog Try.f8 false true false false) := by
  refine returnsInHanded_of_change (C := Try.checked) own started (by kernel_rfl) Try.func8
    (ChangeSpec.witness6 (enc := enc) (C := Try.checked) false ⟨#[], #[.agg #[.int .i64 0, .int .i64 0, .int .i64 0, .int .i64 0, .int .i64 0, .int .i64 0, .int .i64 0, .int .i64 0, .int .i64 0, .int .i64 0, .int .i64 0, .int .i64 0, .int .i64 0, .int .i64 0, .int .i64 0, .int .i64 0, .int .i64 0, .int .i64 0, .int .i64 0, .int .i64 0, .int .i64 0, .int .i64 0, .int .i64 0, .int .i64 0, .int .i64 0, .slice none 0 0, .int .i64 0], .int .i64 0, .int .u8 0], []⟩ 8 (by kernel_rfl) (by kernel_rfl) (by kernel_rfl) (by kernel_rfl)) ?_
  intro W base args ds gs before hval0 hW hcnd _
  have hval : ∀ (j : Nat) t v, Try.f8.params[j]? = some t → args[j]? = some v → Value.okWide Try.prog W .any base t v := hval0
  have hW' := hW
  obtain ⟨p, q, hA0, hV, rfl, hfz, hnd⟩ := hW
  have hA : DataW.TrodAll enc Try.prog W 0 (fun _ => true) true Try.f8.params.toList args.toList ds p := hA0
  rw [Try.params8] at hA hval
  obtain ⟨v0, vs0, d0, ds0, p0, q0, hargs, rfl, rfl, h0, r0⟩ := trodAll_cons hA
  obtain ⟨v1, vs1, d1, ds1, p1, q1, rfl, rfl, rfl, h1, r1⟩ := trodAll_cons r0
  obtain ⟨v2, vs2, d2, ds2, p2, q2, rfl, rfl, rfl, h2, r2⟩ := trodAll_cons r1
  obtain ⟨rfl, rfl, rfl⟩ := trodAll_nil r2
  obtain rfl : args = #[v0, v1, v2] := by cases args; simp_all
  obtain ⟨rfl, rfl⟩ := trodVars_none hV
  have lt0 : ∀ x ∈ p0, x.block < W.heap.size := by obtain ⟨m, hm⟩ := h0; exact DataW.trod_lt m _ _ _ hm
  have lt1 : ∀ x ∈ p1, x.block < W.heap.size := by obtain ⟨m, hm⟩ := h1; exact DataW.trod_lt m _ _ _ hm
  have lt2 : ∀ x ∈ p2, x.block < W.heap.size := by obtain ⟨m, hm⟩ := h2; exact DataW.trod_lt m _ _ _ hm
  obtain ⟨gp0, cl0, sq0, kd0, ci0, ir0, bt0, si0, q0, n0, t0, rfl, w0, k0, sz0⟩ := val_entry (hval 0 34 v0 rfl rfl) h0
  obtain ⟨a1, rfl, w1⟩ := val_i64 Try.underlying3 (hval 1 3 v1 rfl rfl) h1
  obtain ⟨a2, rfl, w2⟩ := val_u8 Try.underlying5 (hval 2 5 v2 rfl rfl) h2
  clear hA0 hval0
  refine (walk gp0 cl0 sq0 kd0 ci0 ir0 bt0 si0 q0 n0 t0 a1 a2 W w0 k0 w1 w2).mono fun e W' ⟨he, bel⟩ => ?_
  subst he
  exact ⟨_, rfl, _, _, _, [], _, [], hW', trodAll_mk1 (shut_bool Try.underlying4 _), (trodAll_cons_mk (Below.trod laidOut (by kernel_rfl) (of_decide_eq_true (by kernel_rfl)) h0 bel lt0) (trodAll_cons_mk (Below.trod laidOut (by kernel_rfl) (of_decide_eq_true (by kernel_rfl)) h1 bel lt1) (trodAll_cons_mk (Below.trod laidOut (by kernel_rfl) (of_decide_eq_true (by kernel_rfl)) h2 bel lt2) trodAll_mk0))), rfl, bel.frame _, fun h => by cases h⟩

theorem over : Rows.commandCutsRow.holds Try.pinned (OpenSpec.ofChange Rows.commandCutsSpec) :=
  OpenClaim.holds_of_wide 8 Try.f8 rfl rfl rfl rfl rfl rfl rfl ⟨rfl, rfl, rfl, rfl, rfl⟩ rfl rfl rfl rfl rfl (by kernel_rfl) Try.func8 (by kernel_rfl)
    (of_decide_eq_true (by kernel_rfl)) (by unfold Func.isWrapper; first | (rw [if_pos (by decide +kernel)]; kernel_rfl) | (rw [if_neg (by decide +kernel)]; exact ⟨rfl, rfl⟩))
    (fun os started H enc _ => lifted os started H enc)

theorem proved : Rows.CommandCutsSaid := over
end Go.Proofs.Ytkjglpgjflkmbaa.commandCuts
