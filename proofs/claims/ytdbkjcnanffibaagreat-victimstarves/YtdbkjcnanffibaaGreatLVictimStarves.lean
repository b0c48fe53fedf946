/- VictimStarves: for every list of queues, every list of leases and every list of needs the law answers true, and its arguments read as they did. No further conditions. -/
import Derived.Test.YtdbkjcnanffibaaGreatMB
import Derived.Test.YtdbkjcnanffibaaGreatMD
import Derived.Test.YtdbkjcnanffibaaGreatQV
import Derived.Test.YtdbkjcnanffibaaGreatHE
namespace Go.Proofs.YtdbkjcnanffibaaGreat.victimStarves
open Go.ChangeShapes Go.WideShapes Go.ChangeAt Go.RowKit Go.Deep Go.Maps Go.Shelf
set_option linter.unusedVariables false
set_option linter.unusedSimpArgs false

set_option maxRecDepth 100000 in
set_option maxHeartbeats 2000000 in
theorem rstarved_any (a : Option Addr) (len cap : Nat) (l : List Qu) (b : Option Addr) (ln cp : Nat) (ls : List Le) (ub : Option Addr) (n uc : Nat) (nd : List Us) (w : World) (h : HoldsQ w a len cap l) (hok : ∀ q ∈ l, q.ok) (hl : HoldsL w b ln cp ls) (hlo : ∀ x ∈ ls, x.okB) (hn : ln * 64 ≤ 140737488355328) (hu : HoldsU w ub n uc nd) (hnn : n * 8 ≤ 140737488355328) :
    Calls Tryz.prog 7 #[.slice a len cap, .slice b ln cp, .slice ub n uc] w fun e w' => ∃ v, e = .returned (.tuple #[v, .int .i64 (starvE l ls nd)]) ∧ OwnN w.heap.size w' v (starvL l ls nd).length (starvL l ls nd) ∧ Below w.heap.size w w' := by
  by_cases e1 : readE l ls = 0
  case neg =>
    have S1 := hid (rsums8_any a len cap l b ln cp ls w h hl hlo hn)
    have E := hid (show starvE l ls nd = readE l ls by unfold starvE; rw [if_neg e1])
    have LN := hid (starvL_no (l := l) (ls := ls) (nd := nd) (by rw [E.out]; exact e1))
    have t : (readE l ls != 0) = true := by simpa using e1
    clear e1 h hok hl hlo hu
    generalize readE l ls = RE at *
    go_enter Tryz.func7, Tryz.ntmps7
    go_wp2_with fail
    with_reducible refine S1.out.mono ?_
    rintro e w1 ⟨v1, rfl, o1, b1⟩
    have B1 := hid b1
    clear o1 b1
    go_wp2_with fail
    go_ret2
    exact ⟨_, ret_u E.out, by rw [LN.out]; exact OwnE.nil _ _ _ _ _, B1.out⟩
  have hp : 0 < len := by rw [← h.1]; exact (chkE_ok.1 (readE_parts e1).1).2.1.1
  obtain ⟨lb, lo, rfl, _⟩ := h.row hp
  exact rstarved_good lb lo len cap l b ln cp ls ub n uc nd w h hok hl hlo hn hu hnn e1

set_option maxRecDepth 100000 in
set_option maxHeartbeats 4000000 in
theorem walk (a : Option Addr) (len cap : Nat) (l : List Qu) (b : Option Addr) (ln cp : Nat) (ls : List Le) (ub : Option Addr) (n uc : Nat) (nd : List Us) (w : World) (h : HoldsQ w a len cap l) (hok : ∀ q ∈ l, q.ok) (s0 : cap * 56 ≤ 140737488351232) (hl : HoldsL w b ln cp ls) (hlk : ∀ x ∈ ls, x.ok) (hlo : ∀ x ∈ ls, x.okB) (s1 : cp * 80 ≤ 140737488351232) (n1 : ∀ q ∈ ls, q.sc * 8 ≤ 140737488351232) (hu : HoldsU w ub n uc nd) (huk : ∀ u ∈ nd, u.ok) (s2 : uc * 24 ≤ 140737488351232) :
    Calls Tryz.prog 3 #[.slice a len cap, .slice b ln cp, .slice ub n uc] w fun e w' => e = .returned (.bool true) ∧ Below w.heap.size w w' := by
  have hcp := hl.1.2.1
  have huc := hu.2.1
  have CH := hid (fun W (hW : Below w.heap.size w W) => ustarved_any a len cap l b ln cp ls ub n uc nd W (h.below hW) hok (hl.below hW) hlo (by omega) (hu.below hW) huk (by omega))
  have RC := hid (fun W (hW : Below w.heap.size w W) => rstarved_any a len cap l b ln cp ls ub n uc nd W (h.below hW) hok (hl.below hW) hlo (by omega) (hu.below hW) (by omega))
  have hsl : (starvL l ls nd).length ≤ n := by
    unfold starvL
    split
    · rw [← hu.1]; exact stT_len _
    · simp
  clear h hok hl hlk hlo n1 hu huk
  generalize starvL l ls nd = SL at *
  generalize starvE l ls nd = SE at *
  have e1 : (SE == SE) = true := by simp
  go_enter Tryz.func3, Tryz.ntmps3
  go_wp2_with fail
  refine (awake8_any _).mono ?_
  rintro e w1 ⟨rfl, b1⟩
  have B1 := hid b1
  clear b1
  go_wp2_with fail
  with_reducible refine (CH.out _ B1.out).mono ?_
  rintro e w2 ⟨v2, rfl, o2, b2⟩
  have B2 := hid (B1.out.trans (b2.mono B1.out.size))
  obtain ⟨aa, ac, rfl⟩ := o2.form
  have H2 := hid (o2.holds encN_len)
  clear b2 CH o2
  go_wp2_with fail
  with_reducible refine (RC.out _ B2.out).mono ?_
  rintro e w3 ⟨v3, rfl, o3, b3⟩
  have B3 := hid (B2.out.trans (b3.mono B2.out.size))
  obtain ⟨bb, bc, rfl⟩ := o3.form
  have IT := hid (ints_any aa bb SL.length ac bc SL _ (H2.out.below b3) (o3.holds encN_len) (by omega))
  clear b3 RC o3 H2
  go_wp2_with fail
  with_reducible refine IT.out.mono ?_
  rintro e w4 ⟨rfl, b4⟩
  have B4 := hid (B3.out.trans (b4.mono B3.out.size))
  clear b4
  go_wp2_with fail
  go_ret
  exact ⟨rfl, B4.out⟩

theorem own : ownKnob Tryz.prog.godebug = none := by kernel_rfl
theorem laidOut : laidOutB Tryz.prog = true := by kernel_rfl

set_option maxRecDepth 100000 in
theorem lifted (os : Os) (started : os.Started) (H : Type) (enc : TypeId × Value → H) :
    ReturnsInHanded {} Tryz.checked os 3 .any (Rows.victimStarvesSpec.pre6 enc Tryz.prog Tryz.f3 Rows.victimStarvesRow.domain false) (Rows.victimStarvesSpec.post enc Tryz.prog Tryz.f3 false true false false) := by
  refine returnsInHanded_of_change_sized (C := Tryz.checked) own started (by kernel_rfl) Tryz.func3
    (ChangeSpec.witness6 (enc := enc) (C := Tryz.checked) false ⟨#[], #[.slice none 0 0, .slice none 0 0, .slice none 0 0], []⟩ 8 (by kernel_rfl) (by kernel_rfl) (by kernel_rfl) (by kernel_rfl)) ?_
  intro W base args ds gs before hval0 hW hcnd hsz0 _
  have hsz : (DataW.weightsEach Tryz.prog (Tryz.f3.params.toList ++ Rows.victimStarvesSpec.plain.varTypes Tryz.prog) (ds ++ gs)).all (· ≤ reachBytes) = true := hsz0
  have hval : ∀ (j : Nat) t v, Tryz.f3.params[j]? = some t → args[j]? = some v → Value.okWide Tryz.prog W .any base t v := hval0
  have hW' := hW
  obtain ⟨p, q, hA0, hV, rfl, hfz, hnd⟩ := hW
  have hA : DataW.TrodAll enc Tryz.prog W 0 (fun _ => true) true Tryz.f3.params.toList args.toList ds p := hA0
  rw [Tryz.params3] at hA hval hsz
  obtain ⟨v0, vs0, d0, ds0, p0, q0, hargs, rfl, rfl, h0, r0⟩ := trodAll_cons hA
  obtain ⟨v1, vs1, d1, ds1, p1, q1, rfl, rfl, rfl, h1, r1⟩ := trodAll_cons r0
  obtain ⟨v2, vs2, d2, ds2, p2, q2, rfl, rfl, rfl, h2, r2⟩ := trodAll_cons r1
  obtain ⟨rfl, rfl, rfl⟩ := trodAll_nil r2
  obtain rfl : args = #[v0, v1, v2] := by cases args; simp_all
  obtain ⟨rfl, rfl⟩ := trodVars_none hV
  have lt0 : ∀ x ∈ p0, x.block < W.heap.size := by obtain ⟨m, hm⟩ := h0; exact DataW.trod_lt m _ _ _ hm
  have lt1 : ∀ x ∈ p1, x.block < W.heap.size := by obtain ⟨m, hm⟩ := h1; exact DataW.trod_lt m _ _ _ hm
  have lt2 : ∀ x ∈ p2, x.block < W.heap.size := by obtain ⟨m, hm⟩ := h2; exact DataW.trod_lt m _ _ _ hm
  obtain ⟨a0, len0, cap0, rfl⟩ := okWide_slice Tryz.underlying22 (hval 0 22 v0 rfl rfl)
  obtain ⟨z0, w0, k0, dr0⟩ := val_rowE (k := 7) (en := Qu.cs) (ok := Qu.ok) Tryz.underlying22 (by kernel_rfl) Qu.cs_len (by decide) (fun _ _ _ h => trod_queue h) h0
  have s0 : cap0 * 56 ≤ 140737488351232 := sized_cap dr0 hsz (j := 0) rfl rfl Tryz.underlying22 (by kernel_rfl)
  obtain ⟨a1, len1, cap1, rfl⟩ := okWide_slice Tryz.underlying23 (hval 1 23 v1 rfl rfl)
  obtain ⟨z1, w1, k1, dr1, nest1, kb1⟩ := val_rowL Tryz.underlying23 h1
  have s1 : cap1 * 80 ≤ 140737488351232 := sized_cap dr1 hsz (j := 1) rfl rfl Tryz.underlying23 (by kernel_rfl)
  have n1 : ∀ q ∈ z1, q.sc * 8 ≤ 140737488351232 := nest1 (by rw [List.all_eq_true]; intro n hn; exact (List.all_eq_true.1 hsz) n (DataW.weights_mem_each (j := 1) rfl rfl n hn))
  obtain ⟨a2, len2, cap2, rfl⟩ := okWide_slice Tryz.underlying24 (hval 2 24 v2 rfl rfl)
  obtain ⟨z2, w2, k2, dr2⟩ := val_rowE (k := 3) (en := Us.cs) (ok := Us.ok) Tryz.underlying24 (by kernel_rfl) Us.cs_len (by decide) (fun _ _ _ h => trod_use h) h2
  have s2 : cap2 * 24 ≤ 140737488351232 := sized_cap dr2 hsz (j := 2) rfl rfl Tryz.underlying24 (by kernel_rfl)
  clear hA0 hval0
  refine (walk a0 len0 cap0 z0 a1 len1 cap1 z1 a2 len2 cap2 z2 W w0 k0 s0 w1 k1 kb1 s1 n1 w2 k2 s2).mono fun e W' ⟨he, bel⟩ => ?_
  subst he
  exact ⟨_, rfl, _, _, _, [], _, [], hW', trodAll_mk1 (shut_bool Tryz.underlying4 _), (trodAll_cons_mk (Below.trod laidOut (by kernel_rfl) (of_decide_eq_true (by kernel_rfl)) h0 bel lt0) (trodAll_cons_mk (Below.trod laidOut (by kernel_rfl) (of_decide_eq_true (by kernel_rfl)) h1 bel lt1) (trodAll_cons_mk (Below.trod laidOut (by kernel_rfl) (of_decide_eq_true (by kernel_rfl)) h2 bel lt2) trodAll_mk0))), rfl, bel.frame _, fun h => by cases h⟩

theorem over : Rows.victimStarvesRow.holds Tryz.pinned (OpenSpec.ofChange Rows.victimStarvesSpec) :=
  OpenClaim.holds_of_wide 3 Tryz.f3 rfl rfl rfl rfl rfl rfl rfl ⟨rfl, rfl, rfl, rfl, rfl⟩ rfl rfl rfl rfl rfl (by kernel_rfl) Tryz.func3 (by kernel_rfl)
    (of_decide_eq_true (by kernel_rfl)) (by unfold Func.isWrapper; first | (rw [if_pos (by decide +kernel)]; kernel_rfl) | (rw [if_neg (by decide +kernel)]; exact ⟨rfl, rfl⟩))
    (fun os started H enc _ => lifted os started H enc)

theorem proved : Rows.VictimStarvesSaid := over

end Go.Proofs.YtdbkjcnanffibaaGreat.victimStarves
