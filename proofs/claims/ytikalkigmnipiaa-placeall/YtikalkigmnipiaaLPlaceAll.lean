/- PlaceAll: for every list of nodes the law answers true, and it reads as it did. No further conditions. -/
import Derived.Test.YtikalkigmnipiaaPK
import Derived.Test.YtikalkigmnipiaaPV
namespace Go.Proofs.Ytikalkigmnipiaa.placeAll
open Go.ChangeShapes Go.WideShapes Go.ChangeAt Go.RowKit Go.Deep Go.Maps Go.Shelf
set_option linter.unusedVariables false
set_option linter.unusedSimpArgs false

set_option maxRecDepth 100000 in
theorem eqv_same (a b : Int) (w : World) : Sem.run Try.prog (binOp BinOp.eql 25 (.agg #[.int .i64 a, .int .i64 b]) (.agg #[.int .i64 a, .int .i64 b])) w = .ok (.bool true) w := by
  have hS2 : Try.prog.underlying 25 = some (.struct (Try.prog.fieldsOf 25)) := by kernel_rfl
  have hp2 : Try.prog.stoodInHeld 25 = false := by kernel_rfl
  have u2 := Try.underlying2
  have a2 := Try.isAgg2
  have z2 := Try.sizeOf2
  rw [run_eql_struct, show (10000 : Nat) = 9999 + 1 from rfl, run_equalIn_agg w 9999 25 _ _ hS2 hp2]
  simp only [Program.fieldsOf, Try.underlying25]
  go_simp

theorem frL_nil {ns : List Nd} {k : Nat} : frL ns [] k = (List.range (da ns k).co.toNat).map (fun c : Nat => (c : Int)) := by
  unfold frL freeT
  rw [List.filter_eq_self.2]
  intro c _
  rfl
theorem frM_nil {ns : List Nd} {k : Nat} : frM ns [] k = (da ns k).me := by simp [frM, rmA, usedM]

set_option maxRecDepth 100000 in
set_option maxHeartbeats 4000000 in
theorem walk_err (a : Option Addr) (len cap : Nat) (ns : List Nd) (w : World) (h : HoldsD w a len cap ns) (hE : totE ns ≠ 0) :
    Calls Try.prog 7 #[.slice a len cap] w fun e w' => e = .returned (.bool true) ∧ Below w.heap.size w w' := by
  have TO := hid (fun W (hW : Below w.heap.size w W) => ptotal_any a len cap ns W (h.below hW))
  have e2 : totV ns = (0, 0) := by unfold totV; rw [if_neg hE]
  rw [e2] at TO
  have t : (totE ns != 0) = true := by simpa using hE
  have EQ := eqv_same 0 0
  clear e2 hE h
  generalize totE ns = E at *
  go_enter Try.func7, Try.ntmps7
  go_wp2_with fail
  refine (awake7_any _).mono ?_
  rintro e w1 ⟨rfl, b1⟩
  have B1 := hid b1
  clear b1
  go_wp2_with fail
  refine (TO.out _ B1.out).mono ?_
  rintro e w2 ⟨rfl, b2⟩
  have B2 := hid (B1.out.trans (b2.mono B1.out.size))
  have B3 : Hid (Below w.heap.size w (w2.alloc (.cells #[.int .i64 0, .int .i64 0] 25))) := B2.out.alloc B2.out.size _
  clear b2
  go_wp2
  go_ret
  exact ⟨rfl, B3.out⟩

set_option maxRecDepth 100000 in
set_option maxHeartbeats 8000000 in
theorem walk_ok (a : Option Addr) (len cap : Nat) (ns : List Nd) (w : World) (h : HoldsD w a len cap ns) (hE : totE ns = 0) :
    Calls Try.prog 7 #[.slice a len cap] w fun e w' => e = .returned (.bool true) ∧ Below w.heap.size w w' := by
  have HH := hid h
  have HL := hid h.1
  have hcap := h.2.1
  have TO := hid (fun W (hW : Below w.heap.size w W) => ptotal_any a len cap ns W (h.below hW))
  have FR := hid (fun W (hW : Below w.heap.size w W) id => pfree_any a len cap ns none 0 0 [] id W (h.below hW) (holdsL_nil W))
  rw [List.map_nil] at FR
  have hpl : plE ns [] = 0 := by
    unfold totE at hE
    split at hE
    · assumption
    · rename_i h1; exact absurd hE h1
  obtain ⟨h64, hn, _⟩ := plE_zero hpl
  have e2 : totV ns = (totC ns, totM ns) := by unfold totV; rw [if_pos hE]
  have hok : okp (totC ns) ∧ okp (totM ns) := by
    unfold totE at hE
    rw [if_pos hpl] at hE
    split at hE
    · assumption
    · cases hE
  have PT := hid (fun k => tot_part hn h64 (k := k))
  have HOK := hid hok
  rw [e2, hE] at TO
  have EQ := fun w => eqv_same (totC ns) (totM ns) w
  have HN := hid hn
  have HE := hid hpl
  clear e2 hE h hpl hn hok
  go_enter Try.func7, Try.ntmps7
  go_wp2_with fail
  refine (awake7_any _).mono ?_
  rintro e w1 ⟨rfl, b1⟩
  have B1 := hid b1
  clear b1
  go_wp2_with fail
  refine (TO.out _ B1.out).mono ?_
  rintro e w2 ⟨rfl, b2⟩
  have B2 := hid (B1.out.trans (b2.mono B1.out.size))
  clear b2 TO B1
  obtain ⟨TC, hTC⟩ : ∃ x, totC ns = x := ⟨_, rfl⟩
  obtain ⟨TM, hTM⟩ : ∃ x, totM ns = x := ⟨_, rfl⟩
  rw [hTC, hTM] at EQ ⊢
  have HTC := hid hTC
  have HTM := hid hTM
  clear hTC hTM
  have BZ : Hid (Below w.heap.size w ((w2.alloc (.cells #[.int .i64 TC, .int .i64 TM] 25)).alloc (.cells #[.int .i64 0, .int .i64 0] 25))) := (B2.out.alloc B2.out.size _).alloc (by have := B2.out.size; simp; omega) _
  have T0 : Hid (((w2.alloc (.cells #[.int .i64 TC, .int .i64 TM] 25)).alloc (.cells #[.int .i64 0, .int .i64 0] 25)).cell? ⟨w2.heap.size, 0, none⟩ = some (.int .i64 TC)) := by unfold Hid; simp [go_sem]
  have T1 : Hid (((w2.alloc (.cells #[.int .i64 TC, .int .i64 TM] 25)).alloc (.cells #[.int .i64 0, .int .i64 0] 25)).cell? ⟨w2.heap.size, 1, none⟩ = some (.int .i64 TM)) := by unfold Hid; simp [go_sem]
  have S0 : Hid (((w2.alloc (.cells #[.int .i64 TC, .int .i64 TM] 25)).alloc (.cells #[.int .i64 0, .int .i64 0] 25)).cell? ⟨w2.heap.size + 1, 0, none⟩ = some (.int .i64 0)) := by unfold Hid; simp [go_sem]
  have S1 : Hid (((w2.alloc (.cells #[.int .i64 TC, .int .i64 TM] 25)).alloc (.cells #[.int .i64 0, .int .i64 0] 25)).cell? ⟨w2.heap.size + 1, 1, none⟩ = some (.int .i64 0)) := by unfold Hid; simp [go_sem]
  have S2 : Hid (((w2.alloc (.cells #[.int .i64 TC, .int .i64 TM] 25)).alloc (.cells #[.int .i64 0, .int .i64 0] 25)).frozen? ⟨w2.heap.size + 1, 0, none⟩ = false) := by unfold Hid; simp [go_sem]
  have S3 : Hid (((w2.alloc (.cells #[.int .i64 TC, .int .i64 TM] 25)).alloc (.cells #[.int .i64 0, .int .i64 0] 25)).frozen? ⟨w2.heap.size + 1, 1, none⟩ = false) := by unfold Hid; simp [go_sem]
  have HZ : Hid (((w2.alloc (.cells #[.int .i64 TC, .int .i64 TM] 25)).alloc (.cells #[.int .i64 0, .int .i64 0] 25)).heap.size = w2.heap.size + 1 + 1) := by unfold Hid; simp
  go_wp2_with fail
  generalize ((w2.alloc (.cells #[.int .i64 TC, .int .i64 TM] 25)).alloc (.cells #[.int .i64 0, .int .i64 0] 25)) = wz at *
  go_loopw [26] (fun i wr => ∃ k : Nat, k ≤ len ∧ i = .int .i64 (k : Int) ∧ Hid (wr.cell? ⟨w2.heap.size + 1, 0, none⟩ = some (.int .i64 (totC (ns.take k))) ∧ wr.cell? ⟨w2.heap.size + 1, 1, none⟩ = some (.int .i64 (totM (ns.take k))) ∧ wr.frozen? ⟨w2.heap.size + 1, 0, none⟩ = false ∧ wr.frozen? ⟨w2.heap.size + 1, 1, none⟩ = false) ∧ Hid (But (w2.heap.size + 1) wz wr)) (fun i _ => len - (intOf i).toNat)
  case atStart => exact ⟨0, by omega, rfl, ⟨S0.out, S1.out, S2.out, S3.out⟩, But.refl _ _⟩
  case round =>
    obtain ⟨k, hk, rfl, hC, hB⟩ := hrel
    have hws : w2.heap.size + 1 + 1 ≤ wr.heap.size := by have := hB.out.size; have := HZ.out; omega
    have hb2 := B2.out.size
    have KB : Hid (Below w.heap.size w wr) := BZ.out.trans (hB.out.bel.mono (by omega))
    have t0 := hB.out.cell T0.out (by omega)
    have t1 := hB.out.cell T1.out (by omega)
    by_cases hlt : k < len
    · have hk' : k < ns.length := by rw [HL.out]; exact hlt
      obtain ⟨db, dof, rfl, R⟩ := HH.out.rowD (by omega)
      obtain ⟨d1, d2, d3, d4, d5⟩ := R k hlt
      have c1 := keepc KB.out d1
      have c2 := keepc KB.out d2
      have c3 := keepc KB.out d3
      have c4 := keepc KB.out d4
      have c5 := keepc KB.out d5
      have ka : (0 : Int) ≤ (k : Int) := by omega
      have kb : (k : Int) < (len : Int) := by omega
      have FE : freeE ns [] (da ns k).id = 0 := by unfold freeE; rw [if_pos HE.out, ndI_at HN.out hk', if_pos hk']
      have FL : freeL ns [] (da ns k).id = (List.range (da ns k).co.toNat).map (fun c : Nat => (c : Int)) := by unfold freeL; rw [FE, if_pos rfl, ndI_at HN.out hk', frL_nil]
      have FM : freeM ns [] (da ns k).id = (da ns k).me := by unfold freeM; rw [FE, if_pos rfl, ndI_at HN.out hk', frM_nil]
      have FC := hid (fun W hW => FR.out W hW (da ns k).id)
      rw [FE, FL, FM, List.length_map, List.length_range] at FC
      have hN := ((ndsB_iff.1 HN.out).1 k hk').1
      have TCt := hid (totC_take hk')
      have TMt := hid (totM_take hk')
      have P1 := PT.out k
      have P2 := PT.out (k + 1)
      rw [TCt.out, TMt.out] at P2
      have hTM := HOK.out.2
      clear d1 d2 d3 d4 d5 R FE FL FM
      obtain ⟨nd, hd⟩ : ∃ x, da ns k = x := ⟨_, rfl⟩
      rw [hd] at c1 c2 c3 c4 c5 FC hN TCt TMt P2
      clear hd
      obtain ⟨x1, x2, x3, x4, x5⟩ := nd
      simp only at hN TCt TMt P2 FC c1 c2 c3 c4 c5
      obtain ⟨N, rfl⟩ : ∃ n : Nat, x2 = n := ⟨x2.toNat, by omega⟩
      rw [Int.toNat_natCast] at FC
      have BA : Hid (Below wr.heap.size wr (wr.alloc (.cells #[.int .i64 x1, .int .i64 (N : Int), .int .i64 x3, .int .i64 x4, .int .i64 x5] 41))) := (Below.refl _ wr).alloc (Nat.le_refl _) _
      have Y1 : Hid ((wr.alloc (.cells #[.int .i64 x1, .int .i64 (N : Int), .int .i64 x3, .int .i64 x4, .int .i64 x5] 41)).cell? ⟨wr.heap.size, 1, none⟩ = some (.int .i64 (N : Int))) := by unfold Hid; simp [go_sem]
      have Y2 : Hid ((wr.alloc (.cells #[.int .i64 x1, .int .i64 (N : Int), .int .i64 x3, .int .i64 x4, .int .i64 x5] 41)).cell? ⟨wr.heap.size, 2, none⟩ = some (.int .i64 x3)) := by unfold Hid; simp [go_sem]
      have KA : Hid (Below w.heap.size w (wr.alloc (.cells #[.int .i64 x1, .int .i64 (N : Int), .int .i64 x3, .int .i64 x4, .int .i64 x5] 41))) := KB.out.alloc KB.out.size _
      unfold okp at hTM
      clear t0 t1
      go_wp2_with fail
      refine (FC.out _ KA.out).mono ?_
      rintro e w4 ⟨v4, rfl, o4, b4⟩
      have y1 := keepc b4 Y1.out
      have y2 := keepc b4 Y2.out
      have K4 := BA.out.trans (b4.mono BA.out.size)
      have s0 := keepc K4 hC.out.1
      have s1 := keepc K4 hC.out.2.1
      have s2 := keepf K4 hC.out.1 hC.out.2.2.1
      have s3 := keepf K4 hC.out.2.1 hC.out.2.2.2
      have B4 := hid (hB.out.trans (But.of K4 (by omega)))
      obtain ⟨cc, rfl, hc⟩ := o4.holds
      have HC := hid hc
      have tn : ((N : Int) != (N : Int)) = false := by simp
      have tx : (x3 != x3) = false := by simp
      have SS := hid (And.intro s0 (And.intro s1 (And.intro s2 s3)))
      clear b4 K4 o4 hc c1 c2 c3 c4 c5 BA KA Y1 Y2 FC hC hB KB s0 s1 s2 s3
      go_wp2_with fail
      go_loopw [55] (fun i wq => ∃ q : Nat, q ≤ N ∧ i = .int .i64 (q : Int) ∧ w4 = wq) (fun i _ => N - (intOf i).toNat)
      case atStart => exact ⟨0, by omega, rfl, rfl⟩
      case round =>
        obtain ⟨q, hq, rfl, rfl⟩ := hrel
        by_cases hql : q < N
        · obtain ⟨cb, co, rfl, RR⟩ := HC.out.rowA (by omega)
          have z0 := RR q hql
          have hz : na ((List.range N).map (fun c : Nat => (c : Int))) q = (q : Int) := by unfold na; rw [List.getElem?_map, List.getElem?_range hql]; rfl
          rw [hz] at z0
          have qa : (0 : Int) ≤ (q : Int) := by omega
          have qb : (q : Int) < (N : Int) := by omega
          have tq : ((q : Int) != (q : Int)) = false := by simp
          clear RR hz y1 y2
          go_wp2
          go_roundw
          case rel => exact ⟨q + 1, by omega, by go_num, trivial⟩
          case measure => simp [intOf]; omega
        · obtain ⟨s0, s1, s2, s3⟩ := SS.out
          have hsum1 : IntKind.i64.wrap (totC (ns.take k) + (N : Int)) = totC (ns.take k) + (N : Int) := by rw [IntKind.wrap_i64]; omega
          have hsum2 : IntKind.i64.wrap (totM (ns.take k) + x3) = totM (ns.take k) + x3 := by rw [IntKind.wrap_i64]; omega
          have B5 : Hid (But (w2.heap.size + 1) wz ((w4.setCell ⟨w2.heap.size + 1, 0, none⟩ (.int .i64 (totC (ns.take (k + 1))))).setCell ⟨w2.heap.size + 1, 1, none⟩ (.int .i64 (totM (ns.take (k + 1)))))) := B4.out.trans ((But.setCell _ _ _ _).trans (But.setCell _ _ _ _))
          have ZZ : Hid (((w4.setCell ⟨w2.heap.size + 1, 0, none⟩ (.int .i64 (totC (ns.take (k + 1))))).setCell ⟨w2.heap.size + 1, 1, none⟩ (.int .i64 (totM (ns.take (k + 1))))).cell? ⟨w2.heap.size + 1, 0, none⟩ = some (.int .i64 (totC (ns.take (k + 1)))) ∧ ((w4.setCell ⟨w2.heap.size + 1, 0, none⟩ (.int .i64 (totC (ns.take (k + 1))))).setCell ⟨w2.heap.size + 1, 1, none⟩ (.int .i64 (totM (ns.take (k + 1))))).cell? ⟨w2.heap.size + 1, 1, none⟩ = some (.int .i64 (totM (ns.take (k + 1)))) ∧ ((w4.setCell ⟨w2.heap.size + 1, 0, none⟩ (.int .i64 (totC (ns.take (k + 1))))).setCell ⟨w2.heap.size + 1, 1, none⟩ (.int .i64 (totM (ns.take (k + 1))))).frozen? ⟨w2.heap.size + 1, 0, none⟩ = false ∧ ((w4.setCell ⟨w2.heap.size + 1, 0, none⟩ (.int .i64 (totC (ns.take (k + 1))))).setCell ⟨w2.heap.size + 1, 1, none⟩ (.int .i64 (totM (ns.take (k + 1))))).frozen? ⟨w2.heap.size + 1, 1, none⟩ = false) := by
            unfold Hid
            generalize totC (ns.take (k + 1)) = NC
            generalize totM (ns.take (k + 1)) = NM
            exact ⟨by simp [go_sem, s0, s1], by simp [go_sem, s0, s1], by simp [go_sem, s2], by simp [go_sem, s3]⟩
          rw [TCt.out, TMt.out] at B5 ZZ
          have TCt' := hid TCt.out.symm
          have TMt' := hid TMt.out.symm
          generalize totC (ns.take k) = SC at *
          generalize totM (ns.take k) = SM at *
          clear P1 P2 TCt TMt
          go_wp2
          go_roundw
          case rel => exact ⟨k + 1, by omega, by go_num, by rw [← TCt'.out, ← TMt'.out]; exact ZZ, B5⟩
          case measure => simp [intOf]; omega
    · have tk : ns.take k = ns := List.take_of_length_le (by rw [HL.out]; omega)
      rw [tk, HTC.out, HTM.out] at hC
      obtain ⟨s0, s1, _, _⟩ := hC.out
      clear hC
      go_wp2
      go_ret
      exact ⟨rfl, KB.out⟩

theorem walk (a : Option Addr) (len cap : Nat) (ns : List Nd) (w : World) (h : HoldsD w a len cap ns) (hok : ∀ q ∈ ns, q.ok) :
    Calls Try.prog 7 #[.slice a len cap] w fun e w' => e = .returned (.bool true) ∧ Below w.heap.size w w' := by
  by_cases h1 : totE ns = 0
  · exact walk_ok a len cap ns w h h1
  · exact walk_err a len cap ns w h h1

theorem own : ownKnob Try.prog.godebug = none := by kernel_rfl
theorem laidOut : laidOutB Try.prog = true := by kernel_rfl

set_option maxRecDepth 100000 in
theorem lifted (os : Os) (started : os.Started) (H : Type) (enc : TypeId × Value → H) :
    ReturnsInHanded {} Try.checked os 7 .any (Rows.placeAllSpec.pre6 enc Try.prog Try.f7 Rows.placeAllRow.domain false) (Rows.placeAllSpec.post enc Try.prog Try.f7 false true false false) := by
  refine returnsInHanded_of_change (C := Try.checked) own started (by kernel_rfl) Try.func7
    (ChangeSpec.witness6 (enc := enc) (C := Try.checked) false ⟨#[], #[.slice none 0 0], []⟩ 8 (by kernel_rfl) (by kernel_rfl) (by kernel_rfl) (by kernel_rfl)) ?_
  intro W base args ds gs before hval0 hW hcnd _
  have hval : ∀ (j : Nat) t v, Try.f7.params[j]? = some t → args[j]? = some v → Value.okWide Try.prog W .any base t v := hval0
  have hW' := hW
  obtain ⟨p, q, hA0, hV, rfl, hfz, hnd⟩ := hW
  have hA : DataW.TrodAll enc Try.prog W 0 (fun _ => true) true Try.f7.params.toList args.toList ds p := hA0
  rw [Try.params7] at hA hval
  obtain ⟨v0, vs0, d0, ds0, p0, q0, hargs, rfl, rfl, h0, r0⟩ := trodAll_cons hA
  obtain ⟨rfl, rfl, rfl⟩ := trodAll_nil r0
  obtain rfl : args = #[v0] := by cases args; simp_all
  obtain ⟨rfl, rfl⟩ := trodVars_none hV
  have lt0 : ∀ x ∈ p0, x.block < W.heap.size := by obtain ⟨m, hm⟩ := h0; exact DataW.trod_lt m _ _ _ hm
  obtain ⟨a0, len0, cap0, rfl⟩ := okWide_slice Try.underlying22 (hval 0 22 v0 rfl rfl)
  obtain ⟨z0, w0, k0, dr0⟩ := val_rowE (k := 5) (en := Nd.cs) (ok := Nd.ok) Try.underlying22 (by kernel_rfl) Nd.cs_len (by decide) (fun _ _ _ h => trod_node h) h0
  clear hA0 hval0
  refine (walk a0 len0 cap0 z0 W w0 k0).mono fun e W' ⟨he, bel⟩ => ?_
  subst he
  exact ⟨_, rfl, _, _, _, [], _, [], hW', trodAll_mk1 (shut_bool Try.underlying4 _), (trodAll_cons_mk (Below.trod laidOut (by kernel_rfl) (of_decide_eq_true (by kernel_rfl)) h0 bel lt0) trodAll_mk0), rfl, bel.frame _, fun h => by cases h⟩

theorem over : Rows.placeAllRow.holds Try.pinned (OpenSpec.ofChange Rows.placeAllSpec) :=
  OpenClaim.holds_of_wide 7 Try.f7 rfl rfl rfl rfl rfl rfl rfl ⟨rfl, rfl, rfl, rfl, rfl⟩ rfl rfl rfl rfl rfl (by kernel_rfl) Try.func7 (by kernel_rfl)
    (of_decide_eq_true (by kernel_rfl)) (by unfold Func.isWrapper; first | (rw [if_pos (by decide +kernel)]; kernel_rfl) | (rw [if_neg (by decide +kernel)]; exact ⟨rfl, rfl⟩))
    (fun os started H enc _ => lifted os started H enc)

theorem proved : Rows.PlaceAllSaid := over

end Go.Proofs.Ytikalkigmnipiaa.placeAll
