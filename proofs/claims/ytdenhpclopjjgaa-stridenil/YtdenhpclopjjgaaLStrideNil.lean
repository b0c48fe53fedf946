/- StrideNil: for every list of calls, every number and every count the law answers true, and the list reads as it did. No further conditions. -/
import Derived.Test.YtdenhpclopjjgaaGP
namespace Go.Proofs.Ytdenhpclopjjgaa.strideNil
open Go.ChangeShapes Go.WideShapes Go.ChangeAt Go.RowKit Go.Deep Go.Maps
set_option linter.unusedVariables false
set_option linter.unusedSimpArgs false

set_option maxRecDepth 100000 in
theorem neqC_same (a b c : Int) (w : World) : Sem.run Try.prog (binOp BinOp.neq 41 (.agg #[.int .i64 a, .int .i64 b, .int .i64 c]) (.agg #[.int .i64 a, .int .i64 b, .int .i64 c])) w = .ok (.bool false) w := by
  have hS : Try.prog.underlying 41 = some (.struct (Try.prog.fieldsOf 41)) := by kernel_rfl
  have hp : Try.prog.stoodInHeld 41 = false := by kernel_rfl
  have u3 := Try.underlying3
  have a3 := Try.isAgg3
  have z3 := Try.sizeOf3
  have u2 := Try.underlying2
  have a2 := Try.isAgg2
  have z2 := Try.sizeOf2
  rw [run_neq_struct, show (10000 : Nat) = 9999 + 1 from rfl, run_equalIn_agg w 9999 41 _ _ hS hp]
  simp only [Program.fieldsOf, Try.underlying41]
  go_simp

/-- A row's form and its cells, whatever they hold. -/
def Shp (w : World) (a : Option Addr) (g n cap : Nat) : Prop := (n = 0) ∨ (a = some ⟨g, 0, none⟩ ∧ n ≤ cap ∧ ∃ cur : Array Value, w.heap[g]? = some (.cells cur 41 (0, 0)) ∧ cur.size = cap * 3)
theorem Shp.cell {w : World} {g cap : Nat} (h : ∃ cur : Array Value, w.heap[g]? = some (.cells cur 41 (0, 0)) ∧ cur.size = cap * 3) {j : Nat} (hj : j < cap * 3) : ∃ v, w.cell? ⟨g, j, none⟩ = some v := by
  obtain ⟨cur, h1, h2⟩ := h
  exact ⟨_, by rw [cell_of_row w g j cur _ (0, 0) h1, Array.getElem?_eq_getElem (by omega)]⟩
theorem Shp.fz {w : World} {g cap : Nat} (h : ∃ cur : Array Value, w.heap[g]? = some (.cells cur 41 (0, 0)) ∧ cur.size = cap * 3) (j : Nat) : w.frozen? ⟨g, j, none⟩ = false := by
  obtain ⟨cur, h1, h2⟩ := h
  exact frozen_of_row w g j cur _ h1
theorem Shp.put {w : World} {g cap : Nat} (h : ∃ cur : Array Value, w.heap[g]? = some (.cells cur 41 (0, 0)) ∧ cur.size = cap * 3) (j : Nat) (v : Value) : ∃ cur : Array Value, (w.setCell ⟨g, j, none⟩ v).heap[g]? = some (.cells cur 41 (0, 0)) ∧ cur.size = cap * 3 := by
  obtain ⟨cur, h1, h2⟩ := h
  exact ⟨_, heap_setCell_same w g j cur _ v h1, by simpa using h2⟩

set_option maxRecDepth 100000 in
set_option maxHeartbeats 8000000 in
theorem walk (a0 : Option Addr) (len0 cap0 : Nat) (z0 : List Oc) (a1 a2 : Int) (w : World) (w0 : HoldsO w a0 len0 cap0 z0) (k0 : ∀ o ∈ z0, o.ok) (w1 : I64 a1) (w2 : I64 a2) :
    Calls Try.prog 8 #[.slice a0 len0 cap0, .int .i64 a1, .int .i64 a2] w fun e w' => e = .returned (.bool true) ∧ Below w.heap.size w w' := by
  have HH := hid w0
  have KK := hid k0
  have GM := hid (Gr.made k0)
  clear w0 k0 w1 w2
  go_enter Try.func8, Try.ntmps8
  go_wp2_with fail
  refine (awake9_any w).mono ?_
  rintro e wd1 ⟨rfl, b1⟩
  have B1 := hid b1
  clear b1
  go_wp2_with fail
  refine (leave_nil a1 wd1).mono ?_
  rintro e w' ⟨rfl, rfl⟩
  go_wp2_with fail
  refine (pick_nil wd1).mono ?_
  rintro e w' ⟨rfl, rfl⟩
  go_wp2_with fail
  refine (run_nil a2 wd1).mono ?_
  rintro e w' ⟨rfl, rfl⟩
  go_wp2_with fail
  refine (join_nil a1 1 0 wd1).mono ?_
  rintro e w' ⟨rfl, rfl⟩
  go_wp2_with fail
  refine (change_nil a1 1 wd1).mono ?_
  rintro e w' ⟨rfl, rfl⟩
  go_wp2_with fail
  refine (list_nil wd1).mono ?_
  rintro e w' ⟨rfl, rfl⟩
  go_wp2_with fail
  refine (made_any a0 len0 cap0 z0 wd1 (HH.out.below B1.out) KK.out).mono ?_
  rintro e wd2 ⟨gb, r, rfl, g2, hg2, hr2, b2⟩
  have G2 := hid g2
  have B2 := hid (B1.out.trans (b2.mono B1.out.size))
  have hs1 := B1.out.size
  clear b2 g2
  have HL := GM.out.len
  generalize hml : madeM z0 = l at *
  clear hml
  obtain ⟨n, hn⟩ : ∃ n, l.length = n := ⟨_, rfl⟩
  go_wp2_with fail
  refine (list_any gb r l wd2 G2.out HL).mono ?_
  rintro e wd3 ⟨v3, rfl, o3, b3⟩
  rw [hn] at o3
  obtain ⟨a3, c3, rfl⟩ := o3.form
  have O3 := hid o3
  have B3 := hid (B2.out.trans (b3.mono B2.out.size))
  have G3 := hid (G2.out.below b3)
  have hs2 := b3.size
  obtain ⟨hgl, hrl⟩ := G2.out.lt
  clear b3 o3
  go_wp2_with fail
  refine (list_any gb r l wd3 G3.out HL).mono ?_
  rintro e wd4 ⟨v4, rfl, o4, b4⟩
  rw [hn] at o4
  obtain ⟨a4, c4, rfl⟩ := o4.form
  have M4 := hid (o4.holds Cl.cs_len)
  have L4 := hid (fun g e => (o4.lt g e).1)
  have O34 := hid (O3.out.below b4)
  have B4 := hid (B3.out.trans (b4.mono B3.out.size))
  have G4 := hid (G3.out.below b4)
  have hs3 := b4.size
  clear b4 o4
  obtain ⟨gl, q1, q2, q3, q4, q5, q6⟩ : ∃ gl, w.heap.size ≤ gl ∧ gl ≠ gb ∧ gl ≠ r ∧ (0 < n → gl < wd3.heap.size) ∧ (0 < n → a3 = some ⟨gl, 0, none⟩ ∧ n ≤ c3) ∧ (0 < n → ∃ cur : Array Value, wd4.heap[gl]? = some (.cells cur 41 (0, 0)) ∧ cur.size = c3 * 3) := by
    rcases O34.out.2.2 with ⟨hv, h0⟩ | ⟨g, cap, cur, hv, hg, hh, hc, hm, hs, ht⟩
    · exact ⟨wd4.heap.size, by have := B4.out.size; omega, by omega, by omega, fun h => by omega, fun h => by omega, fun h => by omega⟩
    · simp at hv
      obtain ⟨rfl, rfl⟩ := hv
      have hb2 := B2.out.size
      exact ⟨g, by omega, by omega, by omega, fun h => by
        have := (O3.out.lt g rfl).2
        exact this, fun h => ⟨rfl, hc⟩, fun h => ⟨cur, hh, hs⟩⟩
  have MB : Hid (∀ x o, a4 = some ⟨x, o, none⟩ → 0 < n → x ≠ gl ∧ x ≠ gl) := by
    intro x o e h
    have := L4.out x (by rw [e]; rfl)
    have := q4 h
    omega
  have hs4 := B4.out.size
  have hgb4 := G4.out.lt
  clear O3 O34 L4 q4
  have Q5 := hid q5
  have Q6 := hid q6
  clear q5 q6
  go_wp2_with fail
  go_loopw [86] (fun v wr => ∃ k : Nat, k ≤ n ∧ v = .int .i64 (k : Int) ∧ Hid (Tn gl gl wd4 wr) ∧ Hid (0 < n → ∃ cur : Array Value, wr.heap[gl]? = some (.cells cur 41 (0, 0)) ∧ cur.size = c3 * 3)) (fun v _ => n - (intOf v).toNat)
  case atStart => exact ⟨0, by omega, rfl, Tn.refl _ _ _, Q6.out⟩
  case round =>
    obtain ⟨k, hk, rfl, hT, hS⟩ := hrel
    by_cases hlt : k < n
    · obtain ⟨rfl, hc3⟩ := Q5.out (by omega)
      have S0 := hS.out (by omega)
      obtain ⟨x0, d0⟩ := Shp.cell S0 (j := k * 3) (by omega)
      obtain ⟨x1, d1⟩ := Shp.cell S0 (j := k * 3 + 1) (by omega)
      obtain ⟨x2, d2⟩ := Shp.cell S0 (j := k * 3 + 2) (by omega)
      have f0 := Shp.fz S0 (k * 3)
      have f1 := Shp.fz S0 (k * 3 + 1)
      have f2 := Shp.fz S0 (k * 3 + 2)
      have ka : (0 : Int) ≤ (k : Int) := by omega
      have kb : (k : Int) < (n : Int) := by omega
      have NS : Hid (∃ cur : Array Value, (((wr.setCell ⟨gl, k * 3, none⟩ (.int .i64 (-9))).setCell ⟨gl, k * 3 + 1, none⟩ (.int .i64 0)).setCell ⟨gl, k * 3 + 2, none⟩ (.int .i64 0)).heap[gl]? = some (.cells cur 41 (0, 0)) ∧ cur.size = c3 * 3) := Shp.put (Shp.put (Shp.put S0 _ _) _ _) _ _
      have NT : Hid (Tn gl gl wd4 (((wr.setCell ⟨gl, k * 3, none⟩ (.int .i64 (-9))).setCell ⟨gl, k * 3 + 1, none⟩ (.int .i64 0)).setCell ⟨gl, k * 3 + 2, none⟩ (.int .i64 0))) := ((hT.out.trans (Tn.setCell (.inl rfl)) (.inl rfl)).trans (Tn.setCell (.inl rfl)) (.inl rfl)).trans (Tn.setCell (.inl rfl)) (.inl rfl)
      clear S0
      go_wp2
      go_roundw
      case rel => exact ⟨k + 1, by omega, by go_num, NT, fun _ => NS.out⟩
      case measure => simp [intOf]; omega
    · have G5 := hid (G4.out.tn hT.out (fun e => q2 e.symm) (fun e => q2 e.symm) (fun e => q3 e.symm) (fun e => q3 e.symm))
      have M5 := hid (hT.out.holds M4.out MB.out)
      have B5 := hid (B4.out.trans (hT.out.below q1 q1 hs4))
      clear hT hS
      go_wp2_with fail
      refine (list_any gb r l wr G5.out HL).mono ?_
      rintro e wd6 ⟨v6, rfl, o6, b6⟩
      rw [hn] at o6
      obtain ⟨a6, c6, rfl⟩ := o6.form
      have K6 := hid (o6.holds Cl.cs_len)
      have M6 := hid (M5.out.below b6)
      have B6 := hid (B5.out.trans (b6.mono B5.out.size))
      have EQ := neqC_same
      clear b6 o6
      go_wp2_with fail
      go_loopw [98] (fun v wx => ∃ j : Nat, j ≤ n ∧ v = .int .i64 (j : Int) ∧ Hid (Below wd6.heap.size wd6 wx)) (fun v _ => n - (intOf v).toNat)
      case atStart => exact ⟨0, by omega, rfl, Below.refl _ _⟩
      case round =>
        obtain ⟨j, hj, rfl, hB⟩ := hrel
        by_cases hlj : j < n
        · obtain ⟨ba, oa', rfl, _, RA⟩ := K6.out.rowC (by omega)
          obtain ⟨bb, ob, rfl, _, RB⟩ := M6.out.rowC (by omega)
          obtain ⟨x0, x1, x2⟩ := RA j hlj
          obtain ⟨y0, y1, y2⟩ := RB j hlj
          replace x0 := keepc hB.out x0
          replace x1 := keepc hB.out x1
          replace x2 := keepc hB.out x2
          replace y0 := keepc hB.out y0
          replace y1 := keepc hB.out y1
          replace y2 := keepc hB.out y2
          clear RA RB
          generalize (ca l j).id = i0 at *
          generalize (ca l j).tk = i1 at *
          generalize (ca l j).ps = i2 at *
          have ka : (0 : Int) ≤ (j : Int) := by omega
          have kb : (j : Int) < (n : Int) := by omega
          go_wp2_with fail
          go_quiet (fail)
          go_wp2
          go_roundw
          case rel => exact ⟨j + 1, by omega, by go_num, below_drewN hB.out _⟩
          case measure => simp [intOf]; omega
        · have B7 := hid (B6.out.trans (hB.out.mono B6.out.size))
          go_wp2
          go_ret
          exact ⟨rfl, B7.out⟩

theorem own : ownKnob Try.prog.godebug = none := by kernel_rfl
theorem laidOut : laidOutB Try.prog = true := by kernel_rfl

set_option maxRecDepth 100000 in
theorem lifted (os : Os) (started : os.Started) (H : Type) (enc : TypeId × Value → H) :
    ReturnsInHanded {} Try.checked os 8 .any (Rows.strideNilSpec.pre6 enc Try.prog Try.f8 Rows.strideNilRow.domain false) (Rows.strideNilSpec.post enc Try.prog Try.f8 false true false false) := by
  refine returnsInHanded_of_change (C := Try.checked) own started (by kernel_rfl) Try.func8
    (ChangeSpec.witness6 (enc := enc) (C := Try.checked) false ⟨#[], #[.slice none 0 0, .int .i64 0, .int .i64 0], []⟩ 8 (by kernel_rfl) (by kernel_rfl) (by kernel_rfl) (by kernel_rfl)) ?_
  intro W base args ds gs before hval0 hW hcnd _
  have hval : ∀ (j : Nat) t v, Try.f8.params[j]? = some t → args[j]? = some v → Value.okWide Try.prog W .any base t v := hval0
  have hW' := hW
  obtain ⟨p, q, hA0, hV, rfl, hfz, hnd⟩ := hW
  have hA : DataW.TrodAll enc Try.prog W 0 (fun _ => true) true Try.f8.params.toList args.toList ds p := hA0
  rw [Try.params8] at hA hval
  obtain ⟨v0, vs0, d0, ds0, p0, q0, hargs, rfl, rfl, h0, r0⟩ := trodAll_cons hA
  obtain ⟨v1, vs1, d1, ds1, p1, q1, rfl, rfl, rfl, h1, r1⟩ := trodAll_cons r0
  obtain ⟨v2, vs2, d2, ds2, p2, q2, rfl, rfl, rfl, h2, r2⟩ := trodAll_cons r1
  obtain ⟨rfl, rfl, rfl⟩ := trodAll_nil r2
  obtain rfl : args = #[v0, v1, v2] := by cases args; simp_all
  obtain ⟨rfl, rfl⟩ := trodVars_none hV
  have lt0 : ∀ x ∈ p0, x.block < W.heap.size := by obtain ⟨m, hm⟩ := h0; exact DataW.trod_lt m _ _ _ hm
  have lt1 : ∀ x ∈ p1, x.block < W.heap.size := by obtain ⟨m, hm⟩ := h1; exact DataW.trod_lt m _ _ _ hm
  have lt2 : ∀ x ∈ p2, x.block < W.heap.size := by obtain ⟨m, hm⟩ := h2; exact DataW.trod_lt m _ _ _ hm
  obtain ⟨a0, len0, cap0, rfl⟩ := okWide_slice Try.underlying22 (hval 0 22 v0 rfl rfl)
  obtain ⟨z0, w0, k0, dr0⟩ := val_rowE (k := 5) (en := Oc.cs) (ok := Oc.ok) Try.underlying22 (by kernel_rfl) Oc.cs_len (by decide) (fun _ _ _ h => trod_op h) h0
  obtain ⟨a1, rfl, w1⟩ := val_i64 Try.underlying3 (hval 1 3 v1 rfl rfl) h1
  obtain ⟨a2, rfl, w2⟩ := val_i64 Try.underlying3 (hval 2 3 v2 rfl rfl) h2
  clear hA0 hval0
  refine (walk a0 len0 cap0 z0 a1 a2 W w0 k0 w1 w2).mono fun e W' ⟨he, bel⟩ => ?_
  subst he
  exact ⟨_, rfl, _, _, _, [], _, [], hW', trodAll_mk1 (shut_bool Try.underlying4 _), (trodAll_cons_mk (Below.trod laidOut (by kernel_rfl) (of_decide_eq_true (by kernel_rfl)) h0 bel lt0) (trodAll_cons_mk (Below.trod laidOut (by kernel_rfl) (of_decide_eq_true (by kernel_rfl)) h1 bel lt1) (trodAll_cons_mk (Below.trod laidOut (by kernel_rfl) (of_decide_eq_true (by kernel_rfl)) h2 bel lt2) trodAll_mk0))), rfl, bel.frame _, fun h => by cases h⟩

theorem over : Rows.strideNilRow.holds Try.pinned (OpenSpec.ofChange Rows.strideNilSpec) :=
  OpenClaim.holds_of_wide 8 Try.f8 rfl rfl rfl rfl rfl rfl rfl ⟨rfl, rfl, rfl, rfl, rfl⟩ rfl rfl rfl rfl rfl (by kernel_rfl) Try.func8 (by kernel_rfl)
    (of_decide_eq_true (by kernel_rfl)) (by unfold Func.isWrapper; first | (rw [if_pos (by decide +kernel)]; kernel_rfl) | (rw [if_neg (by decide +kernel)]; exact ⟨rfl, rfl⟩))
    (fun os started H enc _ => lifted os started H enc)

theorem proved : Rows.StrideNilSaid := over
#print axioms proved
end Go.Proofs.Ytdenhpclopjjgaa.strideNil
