/- StripMends: for all bytes, places and turns the law's call returns true: whatever one byte of guarded bytes is turned into, what was guarded is told, and, if it was turned at all, that it was. No further conditions. -/
import Derived.Test.YtmdhcigkhapolabSS
import Derived.Test.YtmdhcigkhapolabOpenS
namespace Go.Proofs.Ytmdhcigkhapolab.stripMends
open Go.ChangeShapes Go.WideShapes Go.ChangeAt Go.RowKit
set_option linter.unusedVariables false

theorem Own.row {base : Nat} {w : World} {v : Value} {n : Nat} {l : List Int} (h : Own base w v n l) (hn : 0 < n) : ∃ g c, v = .slice (some ⟨g, 0, none⟩) n c ∧ Row base w g n c l := by
  rcases h.1.2 with ⟨rfl, rfl⟩ | ⟨g, cap, cur, rfl, _⟩
  · omega
  · exact ⟨g, cap, rfl, h⟩

set_option maxRecDepth 100000 in
set_option maxHeartbeats 8000000 in
theorem main (a : Option Addr) (m cap : Nat) (p : List Int) (i t : Int) (k : Nat) (w : World) (HP : Hid (HoldsB w a m cap p)) (hi : I64 i) (t0 : 0 ≤ t) (t1 : t ≤ 255) (hm : m ≤ 5000) (kk : k < m + 4) (hT : (IntKind.u64.wrap i).tmod ((m : Int) + 4) = (k : Int)) :
    Calls Try.prog 8 #[.slice a m cap, .int .i64 i, .int .u8 t] w fun e w' => e = .returned (.bool true) ∧ Below w.heap.size w w' := by
  have EB : Hid (gB p = gd p) := by unfold Hid gB; rw [HP.out.1, if_neg (by omega)]
  have EE : Hid (gE p = 0) := by unfold Hid gE; rw [HP.out.1, if_neg (by omega)]
  have EL : Hid ((gd p).length = m + 4) := by unfold Hid; rw [gd_len, HP.out.1]
  have G := hid (fun w h => guard_any a m cap p w h)
  rw [EB.out, EE.out, EL.out] at G
  have tm : decide (5000 < m) = false := by simp; omega
  have tm' : decide ((5000 : Int) < m) = false := by simp; omega
  obtain ⟨i0, i1⟩ := hi
  go_enter Try.func8, Try.ntmps8
  go_wp2_with fail
  with_reducible refine (awake3_any _).mono ?_
  rintro e w1 ⟨rfl, q1⟩
  go_wp2_with fail
  with_reducible refine (G.out _ (HP.out.below q1)).mono ?_
  rintro e w2 ⟨v2, rfl, h2, b2⟩
  obtain ⟨g, c, rfl, hr⟩ := Own.row h2 (by omega)
  have b3 := q1.trans (b2.mono q1.size)
  have hlt := hr.lt
  have cx := hr.cellAt k (by omega)
  have fx := hr.frozenAt k
  have xb := hr.2.getD k
  have XB := xor_back _ t xb.1 xb.2 t0 t1
  have BP := HP.out.2.2.2.2.1
  have MT := hid (fun y y0 y1 => md_turned p k y (by rw [HP.out.1]; exact hm) BP (by rw [HP.out.1]; exact kk) y0 y1)
  have q1s := q1.size
  clear h2 b2 q1
  obtain ⟨x, hx⟩ : ∃ x, x = (gd p)[k]?.getD 0 := ⟨_, rfl⟩
  rw [← hx] at cx xb XB MT
  clear hx
  obtain ⟨y, hy⟩ : ∃ y, y = bits .xor .u8 x t := ⟨_, rfl⟩
  have hy2 := hy.symm
  rw [← hy] at XB
  clear hy
  have ST := hid (hr.stored k y XB.1 XB.2.1)
  have MD := MT.out y XB.1 XB.2.1
  rw [HP.out.1] at MD
  have HM : Hid (HoldsB w a m cap p) := HP
  have BS : Hid (Below w.heap.size w (w2.setCell ⟨g, k, none⟩ (.int .u8 y))) := b3.setCell (by simp; omega) _
  have ME := hid (fun (W : World) (h : HoldsB W (some ⟨g, 0, none⟩) (m + 4) c ((gd p).set k y)) => mend_any _ _ _ _ W h)
  rw [MD] at ME
  have HQ := hid (HP.out.below BS.out)
  obtain ⟨XB0, XB1, XBE⟩ := XB
  have XE := hid XBE
  have HL := hid HP.out.1
  have k0 : (0 : Int) ≤ (k : Int) := by omega
  have k1 : (k : Int) < ((m + 4 : Nat) : Int) := by omega
  have k2 : (k : Int) < (m : Int) + 4 := by omega
  clear hr b3 MT XBE MD HM HP
  by_cases ht : t = 0
  · have u1 : (t == 0) = true := by simp [ht]
    have yx : y = x := XE.out.2 ht
    rw [if_pos yx] at ME
    clear yx ht XE
    go_wp2_with fail
    with_reducible refine (ME.out _ ST.out.holds).mono ?_
    rintro e w3 ⟨v3, rfl, h3, b4⟩
    obtain ⟨a3, c3, rfl⟩ := h3.form
    have q3 := BS.out.trans (b4.mono BS.out.size)
    have H3 := hid h3.holds
    have Q3 := hid (HQ.out.below b4)
    clear h3 b4
    go_wp2_with fail
    with_reducible refine (bytes_same _ _ _ _ _ _ _ _ H3.out Q3.out).mono ?_
    rintro e w4 ⟨rfl, rfl⟩
    go_wp2
    go_ret
    exact ⟨rfl, q3⟩
  · have u1 : (t == 0) = false := by simp [ht]
    have yx : ¬ y = x := fun h => ht (XE.out.1 h)
    rw [if_neg yx] at ME
    clear yx ht XE
    by_cases hl : k < m
    · have e : placeOf m k = (k : Int) := by unfold placeOf; rw [if_pos hl]
      rw [e] at ME
      clear e
      go_wp2_with fail
      with_reducible refine (ME.out _ ST.out.holds).mono ?_
      rintro e w3 ⟨v3, rfl, h3, b4⟩
      obtain ⟨a3, c3, rfl⟩ := h3.form
      have q3 := BS.out.trans (b4.mono BS.out.size)
      have H3 := hid h3.holds
      have Q3 := hid (HQ.out.below b4)
      clear h3 b4
      go_wp2_with fail
      with_reducible refine (bytes_same _ _ _ _ _ _ _ _ H3.out Q3.out).mono ?_
      rintro e w4 ⟨rfl, rfl⟩
      go_wp2
      go_ret
      exact ⟨rfl, q3⟩
    · have e : placeOf m k = (k : Int) - ((k : Int) - m) % 2 := by unfold placeOf; rw [if_neg hl]
      rw [e] at ME
      clear e
      have z0 : 0 ≤ (k : Int) - m := by omega
      have u2 : decide ((k : Int) - ((k : Int) - m) % 2 < 0) = false := by simp; omega
      have u3 : decide (m ≤ k) = true := by simp; omega
      have u4 : decide ((m : Int) ≤ k) = true := by simp; omega
      by_cases hE : (k : Int) - ((k : Int) - m) % 2 = k
      · have u5 : ((k : Int) - ((k : Int) - m) % 2 == (k : Int)) = true := by simpa using hE
        clear hE
        go_wp2_with fail
        with_reducible refine (ME.out _ ST.out.holds).mono ?_
        rintro e w3 ⟨v3, rfl, h3, b4⟩
        obtain ⟨a3, c3, rfl⟩ := h3.form
        have q3 := BS.out.trans (b4.mono BS.out.size)
        have H3 := hid h3.holds
        have Q3 := hid (HQ.out.below b4)
        clear h3 b4
        go_wp2_with fail
        with_reducible refine (bytes_same _ _ _ _ _ _ _ _ H3.out Q3.out).mono ?_
        rintro e w4 ⟨rfl, rfl⟩
        go_wp2
        go_ret
        exact ⟨rfl, q3⟩
      · have u5 : ((k : Int) - ((k : Int) - m) % 2 == (k : Int)) = false := by simpa using hE
        clear hE
        go_wp2_with fail
        with_reducible refine (ME.out _ ST.out.holds).mono ?_
        rintro e w3 ⟨v3, rfl, h3, b4⟩
        obtain ⟨a3, c3, rfl⟩ := h3.form
        have q3 := BS.out.trans (b4.mono BS.out.size)
        have H3 := hid h3.holds
        have Q3 := hid (HQ.out.below b4)
        clear h3 b4
        go_wp2_with fail
        with_reducible refine (bytes_same _ _ _ _ _ _ _ _ H3.out Q3.out).mono ?_
        rintro e w4 ⟨rfl, rfl⟩
        go_wp2
        go_ret
        exact ⟨rfl, q3⟩

theorem walk (a : Option Addr) (m cap : Nat) (z : List Int) (i t : Int) (w : World) (h : IsRow .u8 w a m cap z) (hi : I64 i) (ht : U8 t) :
    Calls Try.prog 8 #[.slice a m cap, .int .i64 i, .int .u8 t] w fun e w' => e = .returned (.bool true) ∧ Below w.heap.size w w' := by
  have HP := holdsB_row h
  by_cases hm : m ≤ 5000
  · have w0 : 0 ≤ IntKind.u64.wrap i := by rw [IntKind.wrap_u64]; omega
    have e : (IntKind.u64.wrap i).tmod ((m : Int) + 4) = (IntKind.u64.wrap i) % ((m : Int) + 4) := Int.tmod_eq_emod_of_nonneg w0
    have r0 := Int.emod_nonneg (IntKind.u64.wrap i) (show (m : Int) + 4 ≠ 0 by omega)
    have r1 := Int.emod_lt_of_pos (IntKind.u64.wrap i) (show 0 < (m : Int) + 4 by omega)
    exact main a m cap _ i t ((IntKind.u64.wrap i) % ((m : Int) + 4)).toNat w HP hi ht.1 ht.2 hm (by omega) (by rw [e]; omega)
  · have hl := HP.2.1
    have tm : decide (5000 < m) = true := by simp; omega
    have tm' : decide ((5000 : Int) < m) = true := by simp; omega
    clear h HP
    go_enter Try.func8, Try.ntmps8
    go_wp2_with fail
    with_reducible refine (awake3_any _).mono ?_
    rintro e w1 ⟨rfl, q1⟩
    go_wp2
    go_ret
    exact ⟨rfl, q1⟩

theorem own : ownKnob Try.prog.godebug = none := by kernel_rfl
theorem laidOut : laidOutB Try.prog = true := by kernel_rfl

set_option maxRecDepth 100000 in
theorem lifted (os : Os) (started : os.Started) (H : Type) (enc : TypeId × Value → H) :
    ReturnsInHanded {} Try.checked os 8 .any (Rows.stripMendsSpec.pre6 enc Try.prog Try.f8 Rows.stripMendsRow.domain false) (Rows.stripMendsSpec.post enc Try.prog Try.f8 false true false false) := by
  refine returnsInHanded_of_change (C := Try.checked) own started (by kernel_rfl) Try.func8
    (ChangeSpec.witness6 (enc := enc) (C := Try.checked) false ⟨#[], #[.slice none 0 0, .int .i64 0, .int .u8 0], []⟩ 8 (by kernel_rfl) (by kernel_rfl) (by kernel_rfl) (by kernel_rfl)) ?_
  intro W base args ds gs before hval0 hW hcnd _
  have hval : ∀ (j : Nat) t v, Try.f8.params[j]? = some t → args[j]? = some v → Value.okWide Try.prog W .any base t v := hval0
  have hW' := hW
  obtain ⟨p, q, hA0, hV, rfl, hfz, hnd⟩ := hW
  have hA : DataW.TrodAll enc Try.prog W 0 (fun _ => true) true Try.f8.params.toList args.toList ds p := hA0
  rw [Try.params8] at hA hval
  obtain ⟨v0, vs0, d0, ds0, p0, q0, hargs, rfl, rfl, h0, r0⟩ := trodAll_cons hA
  obtain ⟨v1, vs1, d1, ds1, p1, q1, rfl, rfl, rfl, h1, r1⟩ := trodAll_cons r0
  obtain ⟨v2, vs2, d2, ds2, p2, q2, rfl, rfl, rfl, h2, r2⟩ := trodAll_cons r1
  obtain ⟨rfl, rfl, rfl⟩ := trodAll_nil r2
  obtain rfl : args = #[v0, v1, v2] := by cases args; simp_all
  obtain ⟨rfl, rfl⟩ := trodVars_none hV
  have lt0 : ∀ x ∈ p0, x.block < W.heap.size := by obtain ⟨m, hm⟩ := h0; exact DataW.trod_lt m _ _ _ hm
  have lt1 : ∀ x ∈ p1, x.block < W.heap.size := by obtain ⟨m, hm⟩ := h1; exact DataW.trod_lt m _ _ _ hm
  have lt2 : ∀ x ∈ p2, x.block < W.heap.size := by obtain ⟨m, hm⟩ := h2; exact DataW.trod_lt m _ _ _ hm
  obtain ⟨a0, len0, cap0, rfl⟩ := okWide_slice Try.underlying22 (hval 0 22 v0 rfl rfl)
  obtain ⟨z0, w0⟩ := val_row Try.underlying22 Try.underlying5 (by kernel_rfl) h0
  obtain ⟨a1, rfl, w1⟩ := val_i64 Try.underlying3 (hval 1 3 v1 rfl rfl) h1
  obtain ⟨a2, rfl, w2⟩ := val_u8 Try.underlying5 (hval 2 5 v2 rfl rfl) h2
  clear hA0 hval0
  refine (walk a0 len0 cap0 z0 a1 a2 W w0 w1 w2).mono fun e W' ⟨he, bel⟩ => ?_
  subst he
  exact ⟨_, rfl, _, _, _, [], _, [], hW', trodAll_mk1 (shut_bool Try.underlying4 _), (trodAll_cons_mk (Below.trod laidOut (by kernel_rfl) (of_decide_eq_true (by kernel_rfl)) h0 bel lt0) (trodAll_cons_mk (Below.trod laidOut (by kernel_rfl) (of_decide_eq_true (by kernel_rfl)) h1 bel lt1) (trodAll_cons_mk (Below.trod laidOut (by kernel_rfl) (of_decide_eq_true (by kernel_rfl)) h2 bel lt2) trodAll_mk0))), rfl, bel.frame _, fun h => by cases h⟩

theorem over : Rows.stripMendsRow.holds Try.pinned (OpenSpec.ofChange Rows.stripMendsSpec) :=
  OpenClaim.holds_of_wide 8 Try.f8 rfl rfl rfl rfl rfl rfl rfl ⟨rfl, rfl, rfl, rfl, rfl⟩ rfl rfl rfl rfl rfl (by kernel_rfl) Try.func8 (by kernel_rfl)
    (of_decide_eq_true (by kernel_rfl)) (by unfold Func.isWrapper; first | (rw [if_pos (by decide +kernel)]; kernel_rfl) | (rw [if_neg (by decide +kernel)]; exact ⟨rfl, rfl⟩))
    (fun os started H enc _ => lifted os started H enc)

theorem proved : Rows.StripMendsSaid := over
#print axioms proved
end Go.Proofs.Ytmdhcigkhapolab.stripMends
