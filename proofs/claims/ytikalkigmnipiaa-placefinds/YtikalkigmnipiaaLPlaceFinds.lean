/- PlaceFinds: for every list of nodes, every list of leases and every need the law answers true, and its arguments read as they did. No further conditions. -/
import Derived.Test.YtikalkigmnipiaaPS
import Derived.Test.YtikalkigmnipiaaPV
namespace Go.Proofs.Ytikalkigmnipiaa.placeFinds
open Go.ChangeShapes Go.WideShapes Go.ChangeAt Go.RowKit Go.Deep Go.Maps Go.Shelf
set_option linter.unusedVariables false
set_option linter.unusedSimpArgs false

theorem fndL_le (ns : List Nd) (ls : List Lz) (nc nm : Int) : (fndL ns ls nc nm).length ≤ 64 := by
  unfold fndL
  split
  · rename_i h
    have hb : needB nc nm = false := by
      unfold fndE at h
      split at h
      · split at h
        · cases h
        · rename_i hb; simpa using hb
      · rename_i h0; exact absurd h h0
    unfold needB at hb
    simp at hb
    rw [List.length_take]
    omega
  · simp
theorem OwnL.holdsL {base base' : Nat} {w : World} {a : Option Addr} {n c : Nat} {l : List Le} (h : OwnL base w (.slice a n c) n l) (hn : ∀ x ∈ l, OwnN base' w (.slice x.sa x.sl x.sc) x.sl x.co) : HoldsL w a n c l := ⟨h.holds Le.cs_len, fun x hx => (hn x hx).holds encN_len⟩

set_option maxRecDepth 100000 in
set_option maxHeartbeats 8000000 in
theorem walk (a : Option Addr) (len cap : Nat) (ns : List Nd) (qa : Option Addr) (ql qc : Nat) (l : List Le) (nc nm : Int) (w : World) (h : HoldsD w a len cap ns) (hok : ∀ q ∈ ns, q.ok) (hs0 : cap * 40 ≤ 140737488351232) (hl : HoldsL w qa ql qc l) (hlk : ∀ q ∈ l, q.ok) (hs : qc * 80 ≤ 140737488351232) (hn : ∀ q ∈ l, q.sc * 8 ≤ 140737488351232) (i0 : I64 nc) (i1 : I64 nm) :
    Calls Try.prog 3 #[.slice a len cap, .slice qa ql qc, .agg #[.int .i64 nc, .int .i64 nm]] w fun e w' => e = .returned (.bool true) ∧ Below w.heap.size w w' := by
  have TW := hid (fun W (hW : Below w.heap.size w W) => twin7_any qa ql qc l W (hl.below hW) hs hn)
  have FN := hid (fun W (hW : Below w.heap.size w W) ta tc l' (hh : HoldsL W ta ql tc l') => pfind_any a len cap ns ta ql tc l' nc nm W (h.below hW) hh)
  have RF := hid (fun W (hW : Below w.heap.size w W) => rpfind_any a len cap ns qa ql qc l nc nm W (h.below hW) (hl.below hW))
  have SM := hid (fun W (hW : Below w.heap.size w W) ta tc l' (hh : HoldsL W ta ql tc l') he => same7_any ta qa ql tc qc l' l W hh (hl.below hW) he hn)
  have LE := fndL_le ns (l.map Le.z) nc nm
  have BW : Hid (Below w.heap.size w (w.alloc (.cells #[.int .i64 nc, .int .i64 nm] 25))) := (Below.refl _ w).alloc (Nat.le_refl _) _
  have M0 : Hid ((w.alloc (.cells #[.int .i64 nc, .int .i64 nm] 25)).cell? ⟨w.heap.size, 0, none⟩ = some (.int .i64 nc)) := by unfold Hid; simp [go_sem]
  have M1 : Hid ((w.alloc (.cells #[.int .i64 nc, .int .i64 nm] 25)).cell? ⟨w.heap.size, 1, none⟩ = some (.int .i64 nm)) := by unfold Hid; simp [go_sem]
  clear h hl hok hlk hs0 hs hn i0 i1
  go_enter Try.func3, Try.ntmps3
  go_wp2_with fail
  refine (awake7_any _).mono ?_
  rintro e w1 ⟨rfl, b1⟩
  have B1 := hid (BW.out.trans (b1.mono BW.out.size))
  have m0 := keepc b1 M0.out
  have m1 := keepc b1 M1.out
  clear b1 M0 M1
  go_wp2_with fail
  refine (TW.out _ B1.out).mono ?_
  rintro e w2 ⟨v2, rfl, ⟨l', o2, n2, y2⟩, b2⟩
  obtain ⟨ta, tc, rfl⟩ := o2.form
  have HT := hid (OwnL.holdsL o2 n2)
  have HY := hid y2
  have HZ := map_z y2
  have B2 := hid (B1.out.trans (b2.mono B1.out.size))
  replace m0 := keepc b2 m0
  replace m1 := keepc b2 m1
  have FN2 := hid (FN.out w2 B2.out ta tc l' HT.out)
  rw [HZ] at FN2
  clear b2 o2 n2 y2 TW B1 HZ FN
  generalize l.map Le.z = ls at *
  generalize fndL ns ls nc nm = FL at *
  generalize fndI ns ls nc nm = FI at *
  generalize fndE ns ls nc nm = FE at *
  generalize hLN : FL.length = LN at *
  clear hLN
  have e1 : (FI == FI) = true := by simp
  have e2 : (FE == FE) = true := by simp
  go_wp2_with fail
  refine FN2.out.mono ?_
  rintro e w3 ⟨v3, rfl, o3, b3⟩
  obtain ⟨aa, rfl, ha⟩ := o3.holds
  have HA := hid ha
  have HT3 := hid (HT.out.below b3)
  have B3 := hid (B2.out.trans (b3.mono B2.out.size))
  replace m0 := keepc b3 m0
  replace m1 := keepc b3 m1
  clear b3 o3 ha FN2 B2 HT
  go_wp2_with fail
  refine (RF.out _ B3.out).mono ?_
  rintro e w4 ⟨bb, bc, rfl, hb, b4⟩
  have HA4 := hid (HA.out.below b4)
  have HT4 := hid (HT3.out.below b4)
  have HB := hid hb
  have B4 := hid (B3.out.trans (b4.mono B3.out.size))
  clear b4 hb RF B3 HA HT3 m0 m1
  have IT := hid (ints_any aa bb LN LN bc FL _ HA4.out HB.out (by omega))
  go_wp2_with fail
  refine IT.out.mono ?_
  rintro e w5 ⟨rfl, b5⟩
  have HT5 := hid (HT4.out.below b5)
  have B5 := hid (B4.out.trans (b5.mono B4.out.size))
  clear b5 IT HA4 HB B4 HT4
  go_wp2_with fail
  refine (SM.out _ B5.out ta tc l' HT5.out HY.out).mono ?_
  rintro e w6 ⟨rfl, b6⟩
  have B6 := hid (B5.out.trans (b6.mono B5.out.size))
  clear b6
  go_wp2
  go_ret
  exact ⟨rfl, B6.out⟩

theorem own : ownKnob Try.prog.godebug = none := by kernel_rfl
theorem laidOut : laidOutB Try.prog = true := by kernel_rfl

set_option maxRecDepth 100000 in
theorem lifted (os : Os) (started : os.Started) (H : Type) (enc : TypeId × Value → H) :
    ReturnsInHanded {} Try.checked os 3 .any (Rows.placeFindsSpec.pre6 enc Try.prog Try.f3 Rows.placeFindsRow.domain false) (Rows.placeFindsSpec.post enc Try.prog Try.f3 false true false false) := by
  refine returnsInHanded_of_change_sized (C := Try.checked) own started (by kernel_rfl) Try.func3
    (ChangeSpec.witness6 (enc := enc) (C := Try.checked) false ⟨#[], #[.slice none 0 0, .slice none 0 0, .agg #[.int .i64 0, .int .i64 0]], []⟩ 8 (by kernel_rfl) (by kernel_rfl) (by kernel_rfl) (by kernel_rfl)) ?_
  intro W base args ds gs before hval0 hW hcnd hsz0 _
  have hsz : (DataW.weightsEach Try.prog (Try.f3.params.toList ++ Rows.placeFindsSpec.plain.varTypes Try.prog) (ds ++ gs)).all (· ≤ reachBytes) = true := hsz0
  have hval : ∀ (j : Nat) t v, Try.f3.params[j]? = some t → args[j]? = some v → Value.okWide Try.prog W .any base t v := hval0
  have hW' := hW
  obtain ⟨p, q, hA0, hV, rfl, hfz, hnd⟩ := hW
  have hA : DataW.TrodAll enc Try.prog W 0 (fun _ => true) true Try.f3.params.toList args.toList ds p := hA0
  rw [Try.params3] at hA hval hsz
  obtain ⟨v0, vs0, d0, ds0, p0, q0, hargs, rfl, rfl, h0, r0⟩ := trodAll_cons hA
  obtain ⟨v1, vs1, d1, ds1, p1, q1, rfl, rfl, rfl, h1, r1⟩ := trodAll_cons r0
  obtain ⟨v2, vs2, d2, ds2, p2, q2, rfl, rfl, rfl, h2, r2⟩ := trodAll_cons r1
  obtain ⟨rfl, rfl, rfl⟩ := trodAll_nil r2
  obtain rfl : args = #[v0, v1, v2] := by cases args; simp_all
  obtain ⟨rfl, rfl⟩ := trodVars_none hV
  have lt0 : ∀ x ∈ p0, x.block < W.heap.size := by obtain ⟨m, hm⟩ := h0; exact DataW.trod_lt m _ _ _ hm
  have lt1 : ∀ x ∈ p1, x.block < W.heap.size := by obtain ⟨m, hm⟩ := h1; exact DataW.trod_lt m _ _ _ hm
  have lt2 : ∀ x ∈ p2, x.block < W.heap.size := by obtain ⟨m, hm⟩ := h2; exact DataW.trod_lt m _ _ _ hm
  obtain ⟨a0, len0, cap0, rfl⟩ := okWide_slice Try.underlying22 (hval 0 22 v0 rfl rfl)
  obtain ⟨z0, w0, k0, dr0⟩ := val_rowE (k := 5) (en := Nd.cs) (ok := Nd.ok) Try.underlying22 (by kernel_rfl) Nd.cs_len (by decide) (fun _ _ _ h => trod_node h) h0
  have s0 : cap0 * 40 ≤ 140737488351232 := sized_cap dr0 hsz (j := 0) rfl rfl Try.underlying22 (by kernel_rfl)
  obtain ⟨a1, len1, cap1, rfl⟩ := okWide_slice Try.underlying23 (hval 1 23 v1 rfl rfl)
  obtain ⟨z1, w1, k1, dr1, nest1⟩ := val_rowL Try.underlying23 h1
  have s1 : cap1 * 80 ≤ 140737488351232 := sized_cap dr1 hsz (j := 1) rfl rfl Try.underlying23 (by kernel_rfl)
  have n1 : ∀ q ∈ z1, q.sc * 8 ≤ 140737488351232 := nest1 (by rw [List.all_eq_true]; intro n hn; exact (List.all_eq_true.1 hsz) n (DataW.weights_mem_each (j := 1) rfl rfl n hn))
  obtain ⟨a2_0, a2_1, rfl, w2_0, w2_1⟩ := val_vec2 Try.underlying25 Try.underlying2 Try.underlying2 (by kernel_rfl) (by kernel_rfl) (hval 2 25 v2 rfl rfl) h2
  clear hA0 hval0
  refine (walk a0 len0 cap0 z0 a1 len1 cap1 z1 a2_0 a2_1 W w0 k0 s0 w1 k1 s1 n1 w2_0 w2_1).mono fun e W' ⟨he, bel⟩ => ?_
  subst he
  exact ⟨_, rfl, _, _, _, [], _, [], hW', trodAll_mk1 (shut_bool Try.underlying4 _), (trodAll_cons_mk (Below.trod laidOut (by kernel_rfl) (of_decide_eq_true (by kernel_rfl)) h0 bel lt0) (trodAll_cons_mk (Below.trod laidOut (by kernel_rfl) (of_decide_eq_true (by kernel_rfl)) h1 bel lt1) (trodAll_cons_mk (Below.trod laidOut (by kernel_rfl) (of_decide_eq_true (by kernel_rfl)) h2 bel lt2) trodAll_mk0))), rfl, bel.frame _, fun h => by cases h⟩

theorem over : Rows.placeFindsRow.holds Try.pinned (OpenSpec.ofChange Rows.placeFindsSpec) :=
  OpenClaim.holds_of_wide 3 Try.f3 rfl rfl rfl rfl rfl rfl rfl ⟨rfl, rfl, rfl, rfl, rfl⟩ rfl rfl rfl rfl rfl (by kernel_rfl) Try.func3 (by kernel_rfl)
    (of_decide_eq_true (by kernel_rfl)) (by unfold Func.isWrapper; first | (rw [if_pos (by decide +kernel)]; kernel_rfl) | (rw [if_neg (by decide +kernel)]; exact ⟨rfl, rfl⟩))
    (fun os started H enc _ => lifted os started H enc)

theorem proved : Rows.PlaceFindsSaid := over

end Go.Proofs.Ytikalkigmnipiaa.placeFinds
