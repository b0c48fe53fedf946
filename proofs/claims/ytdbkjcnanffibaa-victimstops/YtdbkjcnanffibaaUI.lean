/-
  Contracts of victim: may a lease yield?
-/
import Derived.Test.YtdbkjcnanffibaaUF
import Derived.Test.YtdbkjcnanffibaaVB
import Derived.Deep.RegionHeld
import Derived.Deep.Cut
import Derived.Deep.RegionHeld3
import Derived.BigQuiet
namespace Go.Proofs.Ytdbkjcnanffibaa
open Go.RowKit Go.Deep Go.Maps Go.Shelf
set_option linter.unusedVariables false
set_option linter.unusedSimpArgs false

/-- Does what a queue uses cover its Min without so much? -/
def mayB (f : Int → Option Qu) (g : Int → Int × Int) (q c m : Int) : Bool := fitB ((f q).getD q0).mc ((f q).getD q0).mm (rop (g q) (c, m) ((g q).1 - c, (g q).2 - m)).1.1 (rop (g q) (c, m) ((g q).1 - c, (g q).2 - m)).1.2
theorem run_min (a b c d e f g : Int) (w : World) : Sem.run Try.prog (Instr.field 53 (.agg #[.int .i64 a, .int .i64 b, .int .i64 c, .int .i64 d, .int .i64 e, .int .i64 f, .int .i64 g]) 4) w = .ok (.agg #[.int .i64 f, .int .i64 g]) w := by kernel_rfl

set_option maxRecDepth 100000 in
set_option maxHeartbeats 4000000 in
theorem umay_any {mq mu n m : Nat} {f : Int → Option Qu} {h : Int → Bool} {g : Int → Int × Int} (x1 x2 x3 x5 x6 x7 : Int) (sa : Option Addr) (sl sc : Nat) (x8 : Bool) (w : World) (hQ : QMp w mq n f) (hU : UM w mu m h g) (hx : I64 x2) :
    Calls Try.prog 40 #[.agg #[.map (some mq), .map (some mu)], .agg #[.int .i64 x1, .int .i64 x2, .int .i64 x3, .slice sa sl sc, .int .i64 x5, .int .i64 x6, .int .i64 x7, .bool x8]] w fun e w' => e = .returned (.bool (mayB f g x2 sl x5)) ∧ Below w.heap.size w w' := by
  have VA_ : ∃ R1 R2 RE : Int, Hid (∀ W, Calls Try.prog 54 #[.agg #[.int .i64 (g x2).1, .int .i64 (g x2).2], .agg #[.int .i64 (sl : Int), .int .i64 x5]] W fun e w' => e = .returned (.tuple #[.agg #[.int .i64 R1, .int .i64 R2], .int .i64 RE]) ∧ Below W.heap.size W w') ∧ Hid (mayB f g x2 sl x5 = fitB ((f x2).getD q0).mc ((f x2).getD q0).mm R1 R2) :=
    ⟨_, _, _, fun W => vsub_any (g x2).1 (g x2).2 (sl : Int) x5 W, rfl⟩
  obtain ⟨R1, R2, RE, VA_, HR⟩ := VA_
  have LK := hid (fun W (hW : UM W mu m h g) => hW.look hx)
  obtain ⟨q, hq⟩ : ∃ q, (f x2).getD q0 = q := ⟨_, rfl⟩
  have LQ := hid (fun W (hW : QMp W mq n f) => hW.look hx hq)
  rw [hq] at HR
  rw [HR.out]
  clear hq HR
  generalize hg : g x2 = gg at *
  clear hg
  obtain ⟨g1, g2⟩ := gg
  obtain ⟨q1, q2, q3, q4, q5, q6, q7⟩ := q
  simp only at VA_ LK LQ
  have FI := hid (fun W => fits_any q6 q7 R1 R2 W)
  generalize fitB q6 q7 R1 R2 = FB at *
  have BA : Hid (Below w.heap.size w ((w.alloc (.cells #[.map (some mq), .map (some mu)] 64)).alloc (.cells #[.int .i64 x1, .int .i64 x2, .int .i64 x3, .slice sa sl sc, .int .i64 x5, .int .i64 x6, .int .i64 x7, .bool x8] 38))) := ((Below.refl _ w).alloc (Nat.le_refl _) _).alloc (by simp) _
  have U0 : UM ((w.alloc (.cells #[.map (some mq), .map (some mu)] 64)).alloc (.cells #[.int .i64 x1, .int .i64 x2, .int .i64 x3, .slice sa sl sc, .int .i64 x5, .int .i64 x6, .int .i64 x7, .bool x8] 38)) mu m h g := hU.below BA.out
  have Q0 : QMp ((w.alloc (.cells #[.map (some mq), .map (some mu)] 64)).alloc (.cells #[.int .i64 x1, .int .i64 x2, .int .i64 x3, .slice sa sl sc, .int .i64 x5, .int .i64 x6, .int .i64 x7, .bool x8] 38)) mq n f := hQ.below BA.out
  have m8 : ((w.alloc (.cells #[.map (some mq), .map (some mu)] 64)).alloc (.cells #[.int .i64 x1, .int .i64 x2, .int .i64 x3, .slice sa sl sc, .int .i64 x5, .int .i64 x6, .int .i64 x7, .bool x8] 38)).cell? ⟨w.heap.size, 1, none⟩ = some (.map (some mu)) := by simp [go_sem]
  have m9 : ((w.alloc (.cells #[.map (some mq), .map (some mu)] 64)).alloc (.cells #[.int .i64 x1, .int .i64 x2, .int .i64 x3, .slice sa sl sc, .int .i64 x5, .int .i64 x6, .int .i64 x7, .bool x8] 38)).cell? ⟨w.heap.size, 0, none⟩ = some (.map (some mq)) := by simp [go_sem]
  have m0 : ((w.alloc (.cells #[.map (some mq), .map (some mu)] 64)).alloc (.cells #[.int .i64 x1, .int .i64 x2, .int .i64 x3, .slice sa sl sc, .int .i64 x5, .int .i64 x6, .int .i64 x7, .bool x8] 38)).cell? ⟨w.heap.size + 1, 0, none⟩ = some (.int .i64 x1) := by simp [go_sem]
  have m1 : ((w.alloc (.cells #[.map (some mq), .map (some mu)] 64)).alloc (.cells #[.int .i64 x1, .int .i64 x2, .int .i64 x3, .slice sa sl sc, .int .i64 x5, .int .i64 x6, .int .i64 x7, .bool x8] 38)).cell? ⟨w.heap.size + 1, 1, none⟩ = some (.int .i64 x2) := by simp [go_sem]
  have m2 : ((w.alloc (.cells #[.map (some mq), .map (some mu)] 64)).alloc (.cells #[.int .i64 x1, .int .i64 x2, .int .i64 x3, .slice sa sl sc, .int .i64 x5, .int .i64 x6, .int .i64 x7, .bool x8] 38)).cell? ⟨w.heap.size + 1, 2, none⟩ = some (.int .i64 x3) := by simp [go_sem]
  have m3 : ((w.alloc (.cells #[.map (some mq), .map (some mu)] 64)).alloc (.cells #[.int .i64 x1, .int .i64 x2, .int .i64 x3, .slice sa sl sc, .int .i64 x5, .int .i64 x6, .int .i64 x7, .bool x8] 38)).cell? ⟨w.heap.size + 1, 3, none⟩ = some (.slice sa sl sc) := by simp [go_sem]
  have m4 : ((w.alloc (.cells #[.map (some mq), .map (some mu)] 64)).alloc (.cells #[.int .i64 x1, .int .i64 x2, .int .i64 x3, .slice sa sl sc, .int .i64 x5, .int .i64 x6, .int .i64 x7, .bool x8] 38)).cell? ⟨w.heap.size + 1, 4, none⟩ = some (.int .i64 x5) := by simp [go_sem]
  have m5 : ((w.alloc (.cells #[.map (some mq), .map (some mu)] 64)).alloc (.cells #[.int .i64 x1, .int .i64 x2, .int .i64 x3, .slice sa sl sc, .int .i64 x5, .int .i64 x6, .int .i64 x7, .bool x8] 38)).cell? ⟨w.heap.size + 1, 5, none⟩ = some (.int .i64 x6) := by simp [go_sem]
  have m6 : ((w.alloc (.cells #[.map (some mq), .map (some mu)] 64)).alloc (.cells #[.int .i64 x1, .int .i64 x2, .int .i64 x3, .slice sa sl sc, .int .i64 x5, .int .i64 x6, .int .i64 x7, .bool x8] 38)).cell? ⟨w.heap.size + 1, 6, none⟩ = some (.int .i64 x7) := by simp [go_sem]
  have m7 : ((w.alloc (.cells #[.map (some mq), .map (some mu)] 64)).alloc (.cells #[.int .i64 x1, .int .i64 x2, .int .i64 x3, .slice sa sl sc, .int .i64 x5, .int .i64 x6, .int .i64 x7, .bool x8] 38)).cell? ⟨w.heap.size + 1, 7, none⟩ = some (.bool x8) := by simp [go_sem]
  clear hQ hU
  go_enter Try.func40, Try.ntmps40
  go_upto_region 1 with fail
  generalize hW0 : ((w.alloc (.cells #[.map (some mq), .map (some mu)] 64)).alloc (.cells #[.int .i64 x1, .int .i64 x2, .int .i64 x3, .slice sa sl sc, .int .i64 x5, .int .i64 x6, .int .i64 x7, .bool x8] 38)) = W0 at *
  clear hW0
  have BX := hid ((Below.refl W0.heap.size W0).drew)
  generalize hB0 : Array.size (World.heap w) = B0 at *
  have HB0 := hid hB0
  clear hB0
  have TUP := hid (fun Y (hY : Below W0.heap.size W0 Y) => (⟨keepc hY m8, keepc hY m0, keepc hY m1, keepc hY m2, keepc hY m3, keepc hY m4, keepc hY m5, keepc hY m6, keepc hY m7, U0.below hY⟩ : (World.cell? Y ⟨B0, 1, none⟩ = some (.map (some mu)) ∧ World.cell? Y ⟨B0 + 1, 0, none⟩ = some (.int .i64 x1) ∧ World.cell? Y ⟨B0 + 1, 1, none⟩ = some (.int .i64 x2) ∧ World.cell? Y ⟨B0 + 1, 2, none⟩ = some (.int .i64 x3) ∧ World.cell? Y ⟨B0 + 1, 3, none⟩ = some (.slice sa sl sc) ∧ World.cell? Y ⟨B0 + 1, 4, none⟩ = some (.int .i64 x5) ∧ World.cell? Y ⟨B0 + 1, 5, none⟩ = some (.int .i64 x6) ∧ World.cell? Y ⟨B0 + 1, 6, none⟩ = some (.int .i64 x7) ∧ World.cell? Y ⟨B0 + 1, 7, none⟩ = some (.bool x8) ∧ UM Y mu m h g)))
  have TUP0 := hid (fun Y (hY : Below W0.heap.size W0 Y) => And.intro (keepc hY m9) (And.intro (keepc hY m1) (Q0.below hY)))
  clear m0 m1 m2 m3 m4 m5 m6 m7 m8 m9
  refine wp_region_held_drew (S := fun w' => (World.cell? w' ⟨B0, 1, none⟩ = some (.map (some mu)) ∧ World.cell? w' ⟨B0 + 1, 0, none⟩ = some (.int .i64 x1) ∧ World.cell? w' ⟨B0 + 1, 1, none⟩ = some (.int .i64 x2) ∧ World.cell? w' ⟨B0 + 1, 2, none⟩ = some (.int .i64 x3) ∧ World.cell? w' ⟨B0 + 1, 3, none⟩ = some (.slice sa sl sc) ∧ World.cell? w' ⟨B0 + 1, 4, none⟩ = some (.int .i64 x5) ∧ World.cell? w' ⟨B0 + 1, 5, none⟩ = some (.int .i64 x6) ∧ World.cell? w' ⟨B0 + 1, 6, none⟩ = some (.int .i64 x7) ∧ World.cell? w' ⟨B0 + 1, 7, none⟩ = some (.bool x8) ∧ UM w' mu m h g)) (by kernel_rfl) (TUP.out _ BX.out) (fun hHeld => ?_)
  refine wpAnyH_take (i := 0) (v := .pointer (some ⟨B0, 1, none⟩)) rfl (by kernel_rfl) (by kernel_rfl) (by kernel_rfl) (fun _ _ _ h => h) (Or.inl ⟨by rfl, ?_⟩) (by assumption) ?_
  · (intro w hSw;  (try dsimp only at hSw); go_simp)
  (try simp only [Act.put, List.getElem_toArray, List.getElem_cons_succ, List.getElem_cons_zero, List.setIfInBounds_toArray, List.set_cons_zero, List.set_cons_succ])
  refine wpAnyH_take (i := 1) (v := .map (some mu)) rfl (by kernel_rfl) (by kernel_rfl) (by kernel_rfl) (fun _ _ _ h => h) (Or.inl ⟨by rfl, ?_⟩) (by assumption) ?_
  · (intro w hSw;  (try dsimp only at hSw); go_simp)
  (try simp only [Act.put, List.getElem_toArray, List.getElem_cons_succ, List.getElem_cons_zero, List.setIfInBounds_toArray, List.set_cons_zero, List.set_cons_succ])
  refine wpAnyH_take (i := 2) (v := .pointer (some ⟨B0 + 1, 1, none⟩)) rfl (by kernel_rfl) (by kernel_rfl) (by kernel_rfl) (fun _ _ _ h => h) (Or.inl ⟨by rfl, ?_⟩) (by assumption) ?_
  · (intro w hSw;  (try dsimp only at hSw); go_simp)
  (try simp only [Act.put, List.getElem_toArray, List.getElem_cons_succ, List.getElem_cons_zero, List.setIfInBounds_toArray, List.set_cons_zero, List.set_cons_succ])
  refine wpAnyH_take (i := 3) (v := .int .i64 x2) rfl (by kernel_rfl) (by kernel_rfl) (by kernel_rfl) (fun _ _ _ h => h) (Or.inl ⟨by rfl, ?_⟩) (by assumption) ?_
  · (intro w hSw;  (try dsimp only at hSw); go_simp)
  (try simp only [Act.put, List.getElem_toArray, List.getElem_cons_succ, List.getElem_cons_zero, List.setIfInBounds_toArray, List.set_cons_zero, List.set_cons_succ])
  refine wpAnyH_take (i := 4) (v := .agg #[.int .i64 g1, .int .i64 g2]) rfl (by kernel_rfl) (by kernel_rfl) (by kernel_rfl) (fun _ _ _ h => h) (Or.inl ⟨by rfl, ?_⟩) (by assumption) ?_
  · (intro w hSw; have hlk := LK.out _ hSw.2.2.2.2.2.2.2.2.2; (try dsimp only at hSw); go_simp)
  (try simp only [Act.put, List.getElem_toArray, List.getElem_cons_succ, List.getElem_cons_zero, List.setIfInBounds_toArray, List.set_cons_zero, List.set_cons_succ])
  refine wpAnyH_take (i := 5) (v := .agg #[.int .i64 x1, .int .i64 x2, .int .i64 x3, .slice sa sl sc, .int .i64 x5, .int .i64 x6, .int .i64 x7, .bool x8]) rfl (by kernel_rfl) (by kernel_rfl) (by kernel_rfl) (fun _ _ _ h => h) (Or.inl ⟨by rfl, ?_⟩) (by assumption) ?_
  · (intro w hSw;  (try dsimp only at hSw); go_simp)
  (try simp only [Act.put, List.getElem_toArray, List.getElem_cons_succ, List.getElem_cons_zero, List.setIfInBounds_toArray, List.set_cons_zero, List.set_cons_succ])
  refine wpAnyH_ready (rs := [6, 11]) (by kernel_rfl) (by simp) ?_
  refine AllReadyH.cons rfl (fun K hK => ?_) (AllReadyH.cons rfl (fun K hK => ?_) AllReadyH.nil)
  · go_simp
    refine (amount_any _ _ _ _ _ _ _ _ _ _ _).mono ?_
    rintro e y1 ⟨rfl, b1⟩
    replace BX := hid (BX.out.trans (b1.mono BX.out.size))
    refine hK.out _ _ (TUP.out _ BX.out) (fun hHeld => ?_)
    clear hK K
    (try simp only [Act.put, List.getElem_toArray, List.getElem_cons_succ, List.getElem_cons_zero, List.setIfInBounds_toArray, List.set_cons_zero, List.set_cons_succ])
    refine wpAnyH_ready (rs := [7, 11]) (by kernel_rfl) (by simp) ?_
    refine AllReadyH.cons rfl (fun K hK => ?_) (AllReadyH.cons rfl (fun K hK => ?_) AllReadyH.nil)
    · go_simp
      refine (VA_.out _).mono ?_
      rintro e y2 ⟨rfl, b2⟩
      replace BX := hid (BX.out.trans (b2.mono BX.out.size))
      refine hK.out _ _ (TUP.out _ BX.out) (fun hHeld => ?_)
      clear hK K
      (try simp only [Act.put, List.getElem_toArray, List.getElem_cons_succ, List.getElem_cons_zero, List.setIfInBounds_toArray, List.set_cons_zero, List.set_cons_succ])
      refine wpAnyH_take (i := 8) (v := .tuple #[.agg #[.int .i64 R1, .int .i64 R2], .int .i64 RE]) rfl (by kernel_rfl) (by kernel_rfl) (by kernel_rfl) (fun _ _ _ h => h) (Or.inl ⟨by rfl, ?_⟩) (by assumption) ?_
      · (intro w hSw;  (try dsimp only at hSw); go_simp)
      (try simp only [Act.put, List.getElem_toArray, List.getElem_cons_succ, List.getElem_cons_zero, List.setIfInBounds_toArray, List.set_cons_zero, List.set_cons_succ])
      refine wpAnyH_take (i := 9) (v := .agg #[.int .i64 R1, .int .i64 R2]) rfl (by kernel_rfl) (by kernel_rfl) (by kernel_rfl) (fun _ _ _ h => h) (Or.inl ⟨by rfl, ?_⟩) (by assumption) ?_
      · (intro w hSw;  (try dsimp only at hSw); go_simp)
      (try simp only [Act.put, List.getElem_toArray, List.getElem_cons_succ, List.getElem_cons_zero, List.setIfInBounds_toArray, List.set_cons_zero, List.set_cons_succ])
      refine wpAnyH_take (i := 10) (v := .int .i64 RE) rfl (by kernel_rfl) (by kernel_rfl) (by kernel_rfl) (fun _ _ _ h => h) (Or.inl ⟨by rfl, ?_⟩) (by assumption) ?_
      · (intro w hSw;  (try dsimp only at hSw); go_simp)
      (try simp only [Act.put, List.getElem_toArray, List.getElem_cons_succ, List.getElem_cons_zero, List.setIfInBounds_toArray, List.set_cons_zero, List.set_cons_succ])
      refine wpAnyH_ready (rs := [11]) (by kernel_rfl) (by simp) ?_
      refine AllReadyH.cons rfl (fun K hK => ?_) AllReadyH.nil
      go_simp
      have z0 : (y2.alloc (.cells #[.int .i64 0, .int .i64 0] 32)).cell? ⟨y2.heap.size, 0, none⟩ = some (.int .i64 0) := by simp [go_sem]
      have z1 : (y2.alloc (.cells #[.int .i64 0, .int .i64 0] 32)).cell? ⟨y2.heap.size, 1, none⟩ = some (.int .i64 0) := by simp [go_sem]
      have f0 : (y2.alloc (.cells #[.int .i64 0, .int .i64 0] 32)).frozen? ⟨y2.heap.size, 0, none⟩ = false := by simp [go_sem]
      have f1 : (y2.alloc (.cells #[.int .i64 0, .int .i64 0] 32)).frozen? ⟨y2.heap.size, 1, none⟩ = false := by simp [go_sem]
      have hE := hid BX.out.size
      replace BX := hid (BX.out.alloc BX.out.size (.cells #[.int .i64 0, .int .i64 0] 32))
      generalize hyz : y2.alloc (.cells #[.int .i64 0, .int .i64 0] 32) = yz at *
      clear hyz
      generalize hyE : Array.size (World.heap y2) = E at *
      clear hyE
      refine hK.out _ _ (TUP.out _ BX.out) (fun hHeld => ?_)
      clear hK K
      (try simp only [Act.put, List.getElem_toArray, List.getElem_cons_succ, List.getElem_cons_zero, List.setIfInBounds_toArray, List.set_cons_zero, List.set_cons_succ])
      refine wpAnyH_ready (rs := [12]) (by kernel_rfl) (by simp) ?_
      refine AllReadyH.cons rfl (fun K hK => ?_) AllReadyH.nil
      go_simp
      have s0 : ((yz.setCell ⟨E, 0, none⟩ (.int .i64 R1)).setCell ⟨E, 1, none⟩ (.int .i64 R2)).cell? ⟨E, 0, none⟩ = some (.int .i64 R1) := by simp [go_sem, z0, z1, f0, f1]
      have s1 : ((yz.setCell ⟨E, 0, none⟩ (.int .i64 R1)).setCell ⟨E, 1, none⟩ (.int .i64 R2)).cell? ⟨E, 1, none⟩ = some (.int .i64 R2) := by simp [go_sem, z0, z1, f0, f1]
      replace BX : Hid (Below W0.heap.size W0 ((yz.setCell ⟨E, 0, none⟩ (.int .i64 R1)).setCell ⟨E, 1, none⟩ (.int .i64 R2))) := (BX.out.setCell (by exact hE.out) _).setCell (by exact hE.out) _
      clear z0 z1 f0 f1
      generalize hyv : (yz.setCell ⟨E, 0, none⟩ (.int .i64 R1)).setCell ⟨E, 1, none⟩ (.int .i64 R2) = yv at *
      clear hyv
      refine hK.out _ _ (TUP.out _ BX.out) (fun hHeld => ?_)
      clear hK K
      (try simp only [Act.put, List.getElem_toArray, List.getElem_cons_succ, List.getElem_cons_zero, List.setIfInBounds_toArray, List.set_cons_zero, List.set_cons_succ])
      refine wpAnyH_take (i := 13) (v := .int .i64 RE) rfl (by kernel_rfl) (by kernel_rfl) (by kernel_rfl) (fun _ _ _ h => h) (Or.inl ⟨by rfl, ?_⟩) (by assumption) ?_
      · (intro w hSw;  (try dsimp only at hSw); go_simp)
      (try simp only [Act.put, List.getElem_toArray, List.getElem_cons_succ, List.getElem_cons_zero, List.setIfInBounds_toArray, List.set_cons_zero, List.set_cons_succ])
      refine wpAnyH_done (by kernel_rfl) ?_ _
      have q0' := (TUP0.out _ BX.out).1
      have q1 := (TUP0.out _ BX.out).2.1
      have LQ1 := LQ.out yv ((TUP0.out _ BX.out).2.2)
      clear hHeld TUP LK VA_ TUP0 LQ
      have BW := hid (BA.out.trans (BX.out.mono (Nat.le_trans (Nat.le_of_eq HB0.out.symm) BA.out.size)))
      have hpf := run_min
      go_wp2_with fail
      refine (FI.out _).mono ?_
      rintro e y9 ⟨rfl, b9⟩
      have B9 := hid (BW.out.trans (b9.mono (Nat.le_trans (Nat.le_of_eq HB0.out.symm) BW.out.size)))
      clear b9
      go_wp2_with fail
      go_ret
      exact ⟨rfl, by rw [HB0.out]; exact B9.out⟩
    · go_simp
      have z0 : (y1.alloc (.cells #[.int .i64 0, .int .i64 0] 32)).cell? ⟨y1.heap.size, 0, none⟩ = some (.int .i64 0) := by simp [go_sem]
      have z1 : (y1.alloc (.cells #[.int .i64 0, .int .i64 0] 32)).cell? ⟨y1.heap.size, 1, none⟩ = some (.int .i64 0) := by simp [go_sem]
      have f0 : (y1.alloc (.cells #[.int .i64 0, .int .i64 0] 32)).frozen? ⟨y1.heap.size, 0, none⟩ = false := by simp [go_sem]
      have f1 : (y1.alloc (.cells #[.int .i64 0, .int .i64 0] 32)).frozen? ⟨y1.heap.size, 1, none⟩ = false := by simp [go_sem]
      have hE := hid BX.out.size
      replace BX := hid (BX.out.alloc BX.out.size (.cells #[.int .i64 0, .int .i64 0] 32))
      generalize hyz : y1.alloc (.cells #[.int .i64 0, .int .i64 0] 32) = yz at *
      clear hyz
      generalize hyE : Array.size (World.heap y1) = E at *
      clear hyE
      refine hK.out _ _ (TUP.out _ BX.out) (fun hHeld => ?_)
      clear hK K
      (try simp only [Act.put, List.getElem_toArray, List.getElem_cons_succ, List.getElem_cons_zero, List.setIfInBounds_toArray, List.set_cons_zero, List.set_cons_succ])
      refine wpAnyH_ready (rs := [7]) (by kernel_rfl) (by simp) ?_
      refine AllReadyH.cons rfl (fun K hK => ?_) AllReadyH.nil
      go_simp
      refine (VA_.out _).mono ?_
      rintro e y2 ⟨rfl, b2⟩
      replace BX := hid (BX.out.trans (b2.mono BX.out.size))
      replace f0 := keepf b2 z0 f0
      replace f1 := keepf b2 z1 f1
      replace z0 := keepc b2 z0
      replace z1 := keepc b2 z1
      refine hK.out _ _ (TUP.out _ BX.out) (fun hHeld => ?_)
      clear hK K
      (try simp only [Act.put, List.getElem_toArray, List.getElem_cons_succ, List.getElem_cons_zero, List.setIfInBounds_toArray, List.set_cons_zero, List.set_cons_succ])
      refine wpAnyH_take (i := 8) (v := .tuple #[.agg #[.int .i64 R1, .int .i64 R2], .int .i64 RE]) rfl (by kernel_rfl) (by kernel_rfl) (by kernel_rfl) (fun _ _ _ h => h) (Or.inl ⟨by rfl, ?_⟩) (by assumption) ?_
      · (intro w hSw;  (try dsimp only at hSw); go_simp)
      (try simp only [Act.put, List.getElem_toArray, List.getElem_cons_succ, List.getElem_cons_zero, List.setIfInBounds_toArray, List.set_cons_zero, List.set_cons_succ])
      refine wpAnyH_take (i := 9) (v := .agg #[.int .i64 R1, .int .i64 R2]) rfl (by kernel_rfl) (by kernel_rfl) (by kernel_rfl) (fun _ _ _ h => h) (Or.inl ⟨by rfl, ?_⟩) (by assumption) ?_
      · (intro w hSw;  (try dsimp only at hSw); go_simp)
      (try simp only [Act.put, List.getElem_toArray, List.getElem_cons_succ, List.getElem_cons_zero, List.setIfInBounds_toArray, List.set_cons_zero, List.set_cons_succ])
      refine wpAnyH_take (i := 10) (v := .int .i64 RE) rfl (by kernel_rfl) (by kernel_rfl) (by kernel_rfl) (fun _ _ _ h => h) (Or.inl ⟨by rfl, ?_⟩) (by assumption) ?_
      · (intro w hSw;  (try dsimp only at hSw); go_simp)
      (try simp only [Act.put, List.getElem_toArray, List.getElem_cons_succ, List.getElem_cons_zero, List.setIfInBounds_toArray, List.set_cons_zero, List.set_cons_succ])
      refine wpAnyH_ready (rs := [12]) (by kernel_rfl) (by simp) ?_
      refine AllReadyH.cons rfl (fun K hK => ?_) AllReadyH.nil
      go_simp
      have s0 : ((y2.setCell ⟨E, 0, none⟩ (.int .i64 R1)).setCell ⟨E, 1, none⟩ (.int .i64 R2)).cell? ⟨E, 0, none⟩ = some (.int .i64 R1) := by simp [go_sem, z0, z1, f0, f1]
      have s1 : ((y2.setCell ⟨E, 0, none⟩ (.int .i64 R1)).setCell ⟨E, 1, none⟩ (.int .i64 R2)).cell? ⟨E, 1, none⟩ = some (.int .i64 R2) := by simp [go_sem, z0, z1, f0, f1]
      replace BX : Hid (Below W0.heap.size W0 ((y2.setCell ⟨E, 0, none⟩ (.int .i64 R1)).setCell ⟨E, 1, none⟩ (.int .i64 R2))) := (BX.out.setCell (by exact hE.out) _).setCell (by exact hE.out) _
      clear z0 z1 f0 f1
      generalize hyv : (y2.setCell ⟨E, 0, none⟩ (.int .i64 R1)).setCell ⟨E, 1, none⟩ (.int .i64 R2) = yv at *
      clear hyv
      refine hK.out _ _ (TUP.out _ BX.out) (fun hHeld => ?_)
      clear hK K
      (try simp only [Act.put, List.getElem_toArray, List.getElem_cons_succ, List.getElem_cons_zero, List.setIfInBounds_toArray, List.set_cons_zero, List.set_cons_succ])
      refine wpAnyH_take (i := 13) (v := .int .i64 RE) rfl (by kernel_rfl) (by kernel_rfl) (by kernel_rfl) (fun _ _ _ h => h) (Or.inl ⟨by rfl, ?_⟩) (by assumption) ?_
      · (intro w hSw;  (try dsimp only at hSw); go_simp)
      (try simp only [Act.put, List.getElem_toArray, List.getElem_cons_succ, List.getElem_cons_zero, List.setIfInBounds_toArray, List.set_cons_zero, List.set_cons_succ])
      refine wpAnyH_done (by kernel_rfl) ?_ _
      have q0' := (TUP0.out _ BX.out).1
      have q1 := (TUP0.out _ BX.out).2.1
      have LQ1 := LQ.out yv ((TUP0.out _ BX.out).2.2)
      clear hHeld TUP LK VA_ TUP0 LQ
      have BW := hid (BA.out.trans (BX.out.mono (Nat.le_trans (Nat.le_of_eq HB0.out.symm) BA.out.size)))
      have hpf := run_min
      go_wp2_with fail
      refine (FI.out _).mono ?_
      rintro e y9 ⟨rfl, b9⟩
      have B9 := hid (BW.out.trans (b9.mono (Nat.le_trans (Nat.le_of_eq HB0.out.symm) BW.out.size)))
      clear b9
      go_wp2_with fail
      go_ret
      exact ⟨rfl, by rw [HB0.out]; exact B9.out⟩
  · go_simp
    have z0 : ((W0.alloc (.cells #[.int .i64 0, .int .i64 0] 32)).drew).cell? ⟨W0.heap.size, 0, none⟩ = some (.int .i64 0) := by simp [go_sem]
    have z1 : ((W0.alloc (.cells #[.int .i64 0, .int .i64 0] 32)).drew).cell? ⟨W0.heap.size, 1, none⟩ = some (.int .i64 0) := by simp [go_sem]
    have f0 : ((W0.alloc (.cells #[.int .i64 0, .int .i64 0] 32)).drew).frozen? ⟨W0.heap.size, 0, none⟩ = false := by simp [go_sem]
    have f1 : ((W0.alloc (.cells #[.int .i64 0, .int .i64 0] 32)).drew).frozen? ⟨W0.heap.size, 1, none⟩ = false := by simp [go_sem]
    have hE := hid (Nat.le_refl W0.heap.size)
    replace BX := hid (((Below.refl W0.heap.size W0).alloc (Nat.le_refl _) (.cells #[.int .i64 0, .int .i64 0] 32)).drew)
    generalize hyz : (W0.alloc (.cells #[.int .i64 0, .int .i64 0] 32)).drew = yz at *
    clear hyz
    refine hK.out _ _ (TUP.out _ BX.out) (fun hHeld => ?_)
    clear hK K
    (try simp only [Act.put, List.getElem_toArray, List.getElem_cons_succ, List.getElem_cons_zero, List.setIfInBounds_toArray, List.set_cons_zero, List.set_cons_succ])
    refine wpAnyH_ready (rs := [6]) (by kernel_rfl) (by simp) ?_
    refine AllReadyH.cons rfl (fun K hK => ?_) AllReadyH.nil
    go_simp
    refine (amount_any _ _ _ _ _ _ _ _ _ _ _).mono ?_
    rintro e y1 ⟨rfl, b1⟩
    replace BX := hid (BX.out.trans (b1.mono BX.out.size))
    replace f0 := keepf b1 z0 f0
    replace f1 := keepf b1 z1 f1
    replace z0 := keepc b1 z0
    replace z1 := keepc b1 z1
    refine hK.out _ _ (TUP.out _ BX.out) (fun hHeld => ?_)
    clear hK K
    (try simp only [Act.put, List.getElem_toArray, List.getElem_cons_succ, List.getElem_cons_zero, List.setIfInBounds_toArray, List.set_cons_zero, List.set_cons_succ])
    refine wpAnyH_ready (rs := [7]) (by kernel_rfl) (by simp) ?_
    refine AllReadyH.cons rfl (fun K hK => ?_) AllReadyH.nil
    go_simp
    refine (VA_.out _).mono ?_
    rintro e y2 ⟨rfl, b2⟩
    replace BX := hid (BX.out.trans (b2.mono BX.out.size))
    replace f0 := keepf b2 z0 f0
    replace f1 := keepf b2 z1 f1
    replace z0 := keepc b2 z0
    replace z1 := keepc b2 z1
    refine hK.out _ _ (TUP.out _ BX.out) (fun hHeld => ?_)
    clear hK K
    (try simp only [Act.put, List.getElem_toArray, List.getElem_cons_succ, List.getElem_cons_zero, List.setIfInBounds_toArray, List.set_cons_zero, List.set_cons_succ])
    refine wpAnyH_take (i := 8) (v := .tuple #[.agg #[.int .i64 R1, .int .i64 R2], .int .i64 RE]) rfl (by kernel_rfl) (by kernel_rfl) (by kernel_rfl) (fun _ _ _ h => h) (Or.inl ⟨by rfl, ?_⟩) (by assumption) ?_
    · (intro w hSw;  (try dsimp only at hSw); go_simp)
    (try simp only [Act.put, List.getElem_toArray, List.getElem_cons_succ, List.getElem_cons_zero, List.setIfInBounds_toArray, List.set_cons_zero, List.set_cons_succ])
    refine wpAnyH_take (i := 9) (v := .agg #[.int .i64 R1, .int .i64 R2]) rfl (by kernel_rfl) (by kernel_rfl) (by kernel_rfl) (fun _ _ _ h => h) (Or.inl ⟨by rfl, ?_⟩) (by assumption) ?_
    · (intro w hSw;  (try dsimp only at hSw); go_simp)
    (try simp only [Act.put, List.getElem_toArray, List.getElem_cons_succ, List.getElem_cons_zero, List.setIfInBounds_toArray, List.set_cons_zero, List.set_cons_succ])
    refine wpAnyH_take (i := 10) (v := .int .i64 RE) rfl (by kernel_rfl) (by kernel_rfl) (by kernel_rfl) (fun _ _ _ h => h) (Or.inl ⟨by rfl, ?_⟩) (by assumption) ?_
    · (intro w hSw;  (try dsimp only at hSw); go_simp)
    (try simp only [Act.put, List.getElem_toArray, List.getElem_cons_succ, List.getElem_cons_zero, List.setIfInBounds_toArray, List.set_cons_zero, List.set_cons_succ])
    refine wpAnyH_ready (rs := [12]) (by kernel_rfl) (by simp) ?_
    refine AllReadyH.cons rfl (fun K hK => ?_) AllReadyH.nil
    go_simp
    have s0 : ((y2.setCell ⟨W0.heap.size, 0, none⟩ (.int .i64 R1)).setCell ⟨W0.heap.size, 1, none⟩ (.int .i64 R2)).cell? ⟨W0.heap.size, 0, none⟩ = some (.int .i64 R1) := by simp [go_sem, z0, z1, f0, f1]
    have s1 : ((y2.setCell ⟨W0.heap.size, 0, none⟩ (.int .i64 R1)).setCell ⟨W0.heap.size, 1, none⟩ (.int .i64 R2)).cell? ⟨W0.heap.size, 1, none⟩ = some (.int .i64 R2) := by simp [go_sem, z0, z1, f0, f1]
    replace BX : Hid (Below W0.heap.size W0 ((y2.setCell ⟨W0.heap.size, 0, none⟩ (.int .i64 R1)).setCell ⟨W0.heap.size, 1, none⟩ (.int .i64 R2))) := (BX.out.setCell (by exact hE.out) _).setCell (by exact hE.out) _
    clear z0 z1 f0 f1
    generalize hyv : (y2.setCell ⟨W0.heap.size, 0, none⟩ (.int .i64 R1)).setCell ⟨W0.heap.size, 1, none⟩ (.int .i64 R2) = yv at *
    clear hyv
    refine hK.out _ _ (TUP.out _ BX.out) (fun hHeld => ?_)
    clear hK K
    (try simp only [Act.put, List.getElem_toArray, List.getElem_cons_succ, List.getElem_cons_zero, List.setIfInBounds_toArray, List.set_cons_zero, List.set_cons_succ])
    refine wpAnyH_take (i := 13) (v := .int .i64 RE) rfl (by kernel_rfl) (by kernel_rfl) (by kernel_rfl) (fun _ _ _ h => h) (Or.inl ⟨by rfl, ?_⟩) (by assumption) ?_
    · (intro w hSw;  (try dsimp only at hSw); go_simp)
    (try simp only [Act.put, List.getElem_toArray, List.getElem_cons_succ, List.getElem_cons_zero, List.setIfInBounds_toArray, List.set_cons_zero, List.set_cons_succ])
    refine wpAnyH_done (by kernel_rfl) ?_ _
    have q0' := (TUP0.out _ BX.out).1
    have q1 := (TUP0.out _ BX.out).2.1
    have LQ1 := LQ.out yv ((TUP0.out _ BX.out).2.2)
    clear hHeld TUP LK VA_ TUP0 LQ
    have BW := hid (BA.out.trans (BX.out.mono (Nat.le_trans (Nat.le_of_eq HB0.out.symm) BA.out.size)))
    have hpf := run_min
    go_wp2_with fail
    refine (FI.out _).mono ?_
    rintro e y9 ⟨rfl, b9⟩
    have B9 := hid (BW.out.trans (b9.mono (Nat.le_trans (Nat.le_of_eq HB0.out.symm) BW.out.size)))
    clear b9
    go_wp2_with fail
    go_ret
    exact ⟨rfl, by rw [HB0.out]; exact B9.out⟩
end Go.Proofs.Ytdbkjcnanffibaa
