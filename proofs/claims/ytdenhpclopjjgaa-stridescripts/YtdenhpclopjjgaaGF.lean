/-
  Contracts of stride: settle, Clone, Delete.
-/
import Derived.Test.YtdenhpclopjjgaaGE
import Derived.Lib.AppendZerosOnto
import Derived.Lib.Overlaps
import Derived.Laws.IdiomCopy
import Derived.Laws.Externs
import Derived.Laws.NewBlocks
namespace Go.Proofs.Ytdenhpclopjjgaa
open Go.RowKit Go.Deep Go.Maps
set_option linter.unusedVariables false
set_option linter.unusedSimpArgs false

/-- The first k clients settled. -/
def sett (l : List Cl) (k i : Nat) : Cl := if i < k then ⟨(ca l i).id, (ca l i).tk, (ca l i).ps - low l⟩ else ca l i
theorem sett_step (l : List Cl) (k : Nat) : (fun i => if i = k then (⟨(ca l k).id, (ca l k).tk, (ca l k).ps - low l⟩ : Cl) else sett l k i) = sett l (k + 1) := by
  funext i
  unfold sett
  rcases Nat.lt_trichotomy i k with h | h | h
  · rw [if_neg (by omega), if_pos h, if_pos (by omega)]
  · subst h; rw [if_pos rfl, if_pos (by omega)]
  · rw [if_neg (by omega), if_neg (by omega), if_neg (by omega)]

set_option maxRecDepth 100000 in
set_option maxHeartbeats 4000000 in
theorem settle_any (gb r : Nat) (l : List Cl) (w : World) (h : Grp w gb r l) (hle : l.length ≤ 1024) (hps : ∀ i, i < l.length → 0 ≤ (ca l i).ps ∧ (ca l i).ps ≤ 2000000) :
    Calls Try.prog 31 #[gp gb] w fun e w' => (∃ v, e = .returned v) ∧ Grp w' gb r (lev l) ∧ Tn gb r w w' := by
  by_cases hp : 0 < l.length
  · have NX := hid (next_any gb r l w h hp hle)
    have HG := hid h
    obtain ⟨cap, c0, hn, hr⟩ := h.row hp
    have HR := hid hr
    have hcl := hr.le
    have LW := hid (hr.c2 _ (bs_lt hp))
    have LB := hps _ (bs_lt hp)
    have HP := hid hps
    obtain ⟨lo, hlo⟩ : ∃ lo, low l = lo := ⟨_, rfl⟩
    have E2 : (ca l (bs l)).ps = lo := hlo
    rw [E2] at LW LB
    have HLO := hid hlo
    obtain ⟨len, hlen⟩ : ∃ len, l.length = len := ⟨_, rfl⟩
    have HLN := hid hlen
    rw [hlen] at c0 HR hcl hp hle
    have CC := hid c0
    clear h hr hps hlo E2 hlen
    generalize bs l * 3 = bo at *
    have z0 : ¬ ((len : Int) = 0) := by omega
    have z1 : ((len : Int) == 0) = false := by simpa using z0
    go_enter Try.func31, Try.ntmps31
    go_wp2_with fail
    refine NX.out.mono ?_
    rintro e w1 ⟨rfl, b1⟩
    have c0 := keepc b1 CC.out
    have lw := keepc b1 LW.out
    have B1 := hid b1
    go_wp2_with fail
    go_loopw [20] (fun v wr => ∃ k : Nat, k ≤ len ∧ v = .int .i64 k ∧ Hid (RowC wr r len cap (sett l k)) ∧ Hid (wr.heap[gb]? = w.heap[gb]?) ∧ Hid (Tn gb r w wr)) (fun v _ => len - (intOf v).toNat)
    case atStart => exact ⟨0, by omega, rfl, (HR.out.below b1).congr (fun j hj => by simp [sett]), b1.block gb HG.out.lt.1, Tn.of b1⟩
    case round =>
      obtain ⟨k, hk, rfl, hR, hb, hT⟩ := hrel
      by_cases hlt : k < len
      · have c0 : wr.cell? ⟨gb, 0, none⟩ = some (.slice (some ⟨r, 0, none⟩) len cap) := (World.cell?_of_block (w := w) hb.out).trans CC.out
        have c2 := hR.out.c2 k hlt
        have f2 := hR.out.fz (k * 3 + 2)
        have e2 : (sett l k k).ps = (ca l k).ps := by simp [sett]
        rw [e2] at c2
        have bd := HP.out k (by rw [HLN.out]; exact hlt)
        have NR : Hid (RowC (wr.setCell ⟨r, k * 3 + 2, none⟩ (.int .i64 ((ca l k).ps - lo))) r len cap (sett l (k + 1))) := by
          have := hR.out.put hlt ⟨(ca l k).id, (ca l k).tk, (ca l k).ps - low l⟩ 2 (.int .i64 ((ca l k).ps - lo)) (.inr ⟨rfl, by rw [HLO.out], by simp [sett], by simp [sett]⟩)
          rw [sett_step] at this
          exact this
        have NB : Hid ((wr.setCell ⟨r, k * 3 + 2, none⟩ (.int .i64 ((ca l k).ps - lo))).heap[gb]? = w.heap[gb]?) := (Below.heap_setCell _ _ _ _ (fun e => hn e.symm)).trans hb.out
        have NT : Hid (Tn gb r w (wr.setCell ⟨r, k * 3 + 2, none⟩ (.int .i64 ((ca l k).ps - lo)))) := hT.out.trans (Tn.setCell (.inr rfl)) (.inl rfl)
        have hw : IntKind.i64.wrap ((ca l k).ps - lo) = (ca l k).ps - lo := by rw [IntKind.wrap_i64]; omega
        have ka : (0 : Int) ≤ (k : Int) := by omega
        have kb : (k : Int) < (len : Int) := by omega
        clear e2 bd
        generalize (ca l k).ps = q at *
        go_wp2
        go_roundw
        case rel => exact ⟨k + 1, by omega, by go_num, NR, NB, NT⟩
        case measure => simp [intOf]; omega
      · have kl : k = len := by omega
        subst kl
        have NG : Hid (Grp wr gb r (lev l)) := HG.out.turn (by rw [HLN.out]; exact hp) hb.out (by rw [HLN.out]; exact CC.out) (lev_len l) (by
          rw [HLN.out]
          refine hR.out.congr (fun j hj => ?_)
          rw [ca_lev (by rw [HLN.out]; exact hj)]
          simp [sett, hj])
        go_wp2
        go_end0
        exact ⟨⟨_, rfl⟩, NG.out, hT.out⟩
  · obtain rfl : l = [] := List.length_eq_zero_iff.1 (by omega)
    have HG := hid h
    obtain ⟨a, cap, c0, f0, hh, _⟩ := h.box
    clear h hh
    go_enter Try.func31, Try.ntmps31
    go_wp2
    refine bodyPost_ret (results_none rfl _ _ _) rfl ?_
    exact ⟨⟨_, rfl⟩, HG.out, Tn.refl _ _ _⟩

end Go.Proofs.Ytdenhpclopjjgaa
