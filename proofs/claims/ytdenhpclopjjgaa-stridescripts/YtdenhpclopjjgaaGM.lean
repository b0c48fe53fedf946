/-
  Contracts of stride: the quanta, yielded.
-/
import Derived.Test.YtdenhpclopjjgaaGK
import Derived.Test.YtdenhpclopjjgaaGL
import Derived.Stop.RegionWithIn
import Derived.Shelf.Abstract
import Derived.Shelf.RegionOpen
import Derived.TacticsInMore
import Derived.LoopNIn
import Derived.LoopIn
namespace Go.Proofs.Ytdenhpclopjjgaa
open Go.RowKit Go.Deep Go.Maps
set_option linter.unusedVariables false
set_option linter.unusedSimpArgs false
attribute [local go_sem] Oper.semAt_some

theorem quanta_mk (gb : Nat) (n : Int) (w : World) :
    Calls Try.prog 26 #[gp gb, .int .i64 n] w fun e w' => e = .returned (.func (.func 37) #[] #[.pointer (some ⟨w.heap.size + 1, 0, none⟩), .pointer (some ⟨w.heap.size, 0, none⟩)]) ∧ (w.alloc (.cells #[gp gb] 24)).alloc (.cells #[.int .i64 n] 3) = w' := by
  go_enter Try.func26, Try.ntmps26
  go_wp2
  go_ret
  exact ⟨rfl, rfl⟩

/-- The list with the one that is least far gone on by a quantum. -/
def far (l : List Cl) : List Cl := l.set (bs l) (fa (ca l (bs l)))
theorem far_len (l : List Cl) : (far l).length = l.length := by unfold far; rw [List.length_set]
theorem Gr.far_ps {l : List Cl} (h : Gr l) (hp : 0 < l.length) : ∀ i, i < (far l).length → 0 ≤ (ca (far l) i).ps ∧ (ca (far l) i).ps ≤ 2000000 := by
  intro i hi
  rw [far_len] at hi
  obtain ⟨_, a, b, c, d⟩ := h.set_far hp i hi
  have := stv_pos a b
  unfold far; omega
theorem far_row {W : World} {r cap : Nat} {l : List Cl} (hW : RowC W r l.length cap (ca l)) (hp : 0 < l.length) (v : Int) (hv : v = (ca l (bs l)).ps + stv (ca l (bs l)).tk) :
    RowC (W.setCell ⟨r, bs l * 3 + 2, none⟩ (.int .i64 v)) r l.length cap (ca (far l)) := by
  have a1 := hW.put (bs_lt hp) (fa (ca l (bs l))) 2 (.int .i64 v) (.inr ⟨rfl, by rw [hv]; rfl, rfl, rfl⟩)
  refine a1.congr (fun j hj => ?_)
  unfold far
  rw [ca_set hj]
  by_cases e : j = bs l
  · rw [if_pos e, if_pos e.symm]
  · rw [if_neg e, if_neg (fun h => e h.symm)]

set_option maxRecDepth 100000 in
set_option maxHeartbeats 4000000 in
theorem quanta_turns (n : Nat) (hn : 2 ≤ n) (gb r Bg Bn N : Nat) (hN : N ≤ 100000) (l : List Cl) (w : World) (hg : Gr l) (hp0 : 0 < N → 0 < l.length) :
    Turns Fence.wide n Try.prog 37 #[.pointer (some ⟨Bn, 0, none⟩), .pointer (some ⟨Bg, 0, none⟩)] N (fun k => #[.int .i64 (pid (pks l k))])
      (fun k W => W.cell? ⟨Bn, 0, none⟩ = some (.int .i64 (N : Int)) ∧ W.cell? ⟨Bg, 0, none⟩ = some (gp gb) ∧ Grp W gb r (pks l k) ∧ Bg ≠ gb ∧ Bg ≠ r)
      (fun k A B => Grp B gb r (pks l (k + 1)) ∧ Tn gb r A B) w := fun lp J JM W hW hRd hSt hY h0 => by
  have h1n : 1 ≤ n := by omega
  obtain ⟨cn, _⟩ := hRd 0 W h0
  refine callsIn_of_wp Try.func37 rfl trivial ?_ rfl
  simp only [Try.ntmps37, List.size_toArray, List.length_cons, List.length_nil, Nat.reduceAdd, Nat.reduceSub, Array.replicate_succ, Array.replicate_zero, List.push_toArray, List.append_toArray, List.nil_append, List.cons_append]
  gi_wp2
  gi_loopw [6] (fun v wr => ∃ k : Nat, k ≤ N ∧ v = .int .i64 (k : Int) ∧ Hid (J k wr)) (fun v _ => N - (intOf v).toNat)
  case atStart => exact ⟨0, by omega, rfl, h0⟩
  case round =>
    obtain ⟨k, hk, rfl, hJ⟩ := hrel
    by_cases hlt : k < N
    · have hp := hp0 (by omega)
      obtain ⟨_, cg, hG, n1, n2⟩ := hRd k wr hJ.out
      have GR := hid (hg.pks hp k)
      have ST := hid (fun B => hSt k wr B hJ.out hlt)
      have YY := hid (fun A h => hY k A h hlt)
      have PL := pks_len l k
      have PS : pks l (k + 1) = lev (far (pks l k)) := rfl
      have HPS := hid PS
      generalize pks l (k + 1) = l2 at *
      generalize pks l k = m at *
      have hm : 0 < m.length := by rw [PL]; exact hp
      have NX := hid (next_any gb r m wr hG hm GR.out.len)
      have HG := hid hG
      have ka : (k : Int) < (N : Int) := by omega
      clear hG hJ cn PS
      gi_wp2_with fail
      refine ⟨trivial, ?_⟩
      refine (callsIn_wide.2 NX.out).mono ?_
      rintro e w1 ⟨rfl, b1⟩
      obtain ⟨cap, c0, hne, hrow⟩ := HG.out.row hm
      have R1 := hrow.below b1
      have hb := bs_lt hm
      have p0 := R1.c0 _ hb
      have p1 := R1.c1 _ hb
      have p2 := R1.c2 _ hb
      have f2 := R1.fz (bs m * 3 + 2)
      have cg1 := keepc b1 cg
      obtain ⟨_, t1, t2, q1, q2⟩ := GR.out.rng _ hb
      have sp := stv_pos t1 t2
      have SC := hid (fun W => stride_any (ca m (bs m)).tk t1 t2 W)
      have hw : IntKind.i64.wrap ((ca m (bs m)).ps + stv (ca m (bs m)).tk) = (ca m (bs m)).ps + stv (ca m (bs m)).tk := by rw [IntKind.wrap_i64]; omega
      have hrl : r < wr.heap.size := hrow.lt
      have AL : Hid (Grp (w1.setCell ⟨r, bs m * 3 + 2, none⟩ (.int .i64 ((ca m (bs m)).ps + stv (ca m (bs m)).tk))).drew gb r (far m) ∧ Tn gb r wr (w1.setCell ⟨r, bs m * 3 + 2, none⟩ (.int .i64 ((ca m (bs m)).ps + stv (ca m (bs m)).tk))).drew) := by
        have a3 := far_row R1 hm _ rfl
        have k3 : (w1.setCell ⟨r, bs m * 3 + 2, none⟩ (.int .i64 ((ca m (bs m)).ps + stv (ca m (bs m)).tk))).heap[gb]? = wr.heap[gb]? := (Below.heap_setCell _ _ _ _ (fun e => hne e.symm)).trans (b1.block gb HG.out.lt.1)
        have G3 := HG.out.turn hm k3 c0 (far_len m) a3
        exact ⟨G3.below (Below.refl _ _).drew, ((Tn.of b1).trans (Tn.setCell (.inr rfl)) (.inl rfl)).step (Below.refl _ _).drew⟩
      have SE := hid (settle_any gb r (far m) _ AL.out.1 (by rw [far_len]; exact GR.out.len) (GR.out.far_ps hm))
      have cg2 : (w1.setCell ⟨r, bs m * 3 + 2, none⟩ (.int .i64 ((ca m (bs m)).ps + stv (ca m (bs m)).tk))).drew.cell? ⟨Bg, 0, none⟩ = some (gp gb) := (World.cell?_setCell_other w1 _ _ _ (by intro e; injection e with e1 e2; exact n2 e1.symm)).trans cg1
      have CG2 := hid cg2
      have PO : Hid ((ca (lev (far m)) (bs m)).id = (ca m (bs m)).id) := by
        unfold Hid
        rw [ca_lev (by rw [far_len]; exact hb)]
        unfold far
        rw [ca_set hb, if_pos rfl]; rfl
      have HB := hid hb
      unfold pid at YY
      clear R1 hrow hb t1 t2 q1 q2 sp c0 cg2 cg
      generalize (ca m (bs m)).id = c0v at *
      generalize (ca m (bs m)).ps = psv at *
      generalize (ca m (bs m)).tk = tkv at *
      generalize bs m = bi at *
      generalize stv tkv = sv at *
      gi_wp2_with fail
      gi_region_with (refine ⟨trivial, ?_⟩; refine (callsIn_wide.2 (SC.out _)).mono ?_; rintro e w2 ⟨rfl, rfl⟩)
      all_goals
        have cg3 := CG2.out
        gi_wp2_with fail
        refine ⟨trivial, ?_⟩
        refine (callsIn_wide.2 SE.out).mono ?_
        rintro e W3 ⟨⟨v3, rfl⟩, G3, T3⟩
        have G3' := G3
        rw [← HPS.out] at G3'
        have JM3 := ST.out W3 ⟨G3', AL.out.2.trans T3 (.inl rfl)⟩
        obtain ⟨cap3, _, _, R3⟩ := G3.row (by rw [lev_len, far_len]; exact hm)
        have p3 := R3.c0 bi (by rw [lev_len, far_len]; exact HB.out)
        rw [PO.out] at p3
        obtain ⟨fn, tmps, assign, body, hy, hR⟩ := YY.out W3 JM3
        have HR := hid hR
        clear hR JM3 G3 G3' T3 R3
        gi_wp2
        refine HR.out.mono ?_
        rintro e W4 ⟨rfl, J4⟩
        have HJ4 := hid J4
        clear J4
        gi_wp2
        go_roundw
        case rel => exact ⟨k + 1, by omega, by go_num, HJ4⟩
        case measure => simp [intOf]; omega
    · have kl : k = N := by omega
      subst kl
      gi_wp2
      go_end0
      exact ⟨⟨_, rfl⟩, hJ.out⟩

end Go.Proofs.Ytdenhpclopjjgaa
