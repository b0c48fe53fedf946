/-
  Contracts of victim: the lease of which the end is felt least.
-/
import Derived.Test.YtdbkjcnanffibaaUJ
import Derived.Test.YtdbkjcnanffibaaUH
namespace Go.Proofs.Ytdbkjcnanffibaa
open Go.RowKit Go.Deep Go.Maps Go.Shelf
set_option linter.unusedVariables false
set_option linter.unusedSimpArgs false

/-- The best of the first k leases. -/
def greT (f : Int → Option Qu) (g : Int → Int × Int) (p q : Int) (l : List Le) : Nat → Option Le
  | 0 => none
  | k + 1 => if mayB f g (la l k).qu ((la l k).sl : Int) (la l k).me = true then (match greT f g p q l k with
    | none => some (la l k)
    | some b => if befB f g (la l k).ta (la l k).qu b.ta b.qu p q = true then some (la l k) else some b) else greT f g p q l k
/-- A lease's cells, that may be written. -/
def FreeL (w : World) (b : Nat) (x : Le) : Prop := (w.cell? ⟨b, 0, none⟩ = some (.int .i64 x.ta) ∧ w.cell? ⟨b, 1, none⟩ = some (.int .i64 x.qu) ∧ w.cell? ⟨b, 2, none⟩ = some (.int .i64 x.no) ∧ w.cell? ⟨b, 3, none⟩ = some (.slice x.sa x.sl x.sc) ∧ w.cell? ⟨b, 4, none⟩ = some (.int .i64 x.me) ∧ w.cell? ⟨b, 5, none⟩ = some (.int .i64 x.si) ∧ w.cell? ⟨b, 6, none⟩ = some (.int .i64 x.un) ∧ w.cell? ⟨b, 7, none⟩ = some (.bool x.st)) ∧ w.frozen? ⟨b, 0, none⟩ = false ∧ w.frozen? ⟨b, 1, none⟩ = false ∧ w.frozen? ⟨b, 2, none⟩ = false ∧ w.frozen? ⟨b, 3, none⟩ = false ∧ w.frozen? ⟨b, 4, none⟩ = false ∧ w.frozen? ⟨b, 5, none⟩ = false ∧ w.frozen? ⟨b, 6, none⟩ = false ∧ w.frozen? ⟨b, 7, none⟩ = false
def st8 (w : World) (b : Nat) (x : Le) : World := ((((((((w.setCell ⟨b, 0, none⟩ (.int .i64 x.ta)).setCell ⟨b, 1, none⟩ (.int .i64 x.qu)).setCell ⟨b, 2, none⟩ (.int .i64 x.no)).setCell ⟨b, 3, none⟩ (.slice x.sa x.sl x.sc)).setCell ⟨b, 4, none⟩ (.int .i64 x.me)).setCell ⟨b, 5, none⟩ (.int .i64 x.si)).setCell ⟨b, 6, none⟩ (.int .i64 x.un)).setCell ⟨b, 7, none⟩ (.bool x.st))
theorem FreeL.below {w w' : World} {b : Nat} {x : Le} (h : FreeL w b x) (hb : Below w.heap.size w w') : FreeL w' b x := by
  obtain ⟨⟨c0, c1, c2, c3, c4, c5, c6, c7⟩, f0, f1, f2, f3, f4, f5, f6, f7⟩ := h
  exact ⟨⟨keepc hb c0, keepc hb c1, keepc hb c2, keepc hb c3, keepc hb c4, keepc hb c5, keepc hb c6, keepc hb c7⟩, keepf hb c0 f0, keepf hb c1 f1, keepf hb c2 f2, keepf hb c3 f3, keepf hb c4 f4, keepf hb c5 f5, keepf hb c6 f6, keepf hb c7 f7⟩
set_option maxHeartbeats 2000000 in
theorem FreeL.set {w : World} {b : Nat} {x y : Le} (h : FreeL w b x) : FreeL (st8 w b y) b y := by
  obtain ⟨⟨c0, c1, c2, c3, c4, c5, c6, c7⟩, f0, f1, f2, f3, f4, f5, f6, f7⟩ := h
  unfold st8
  exact ⟨by simp [go_sem, c0, c1, c2, c3, c4, c5, c6, c7, f0, f1, f2, f3, f4, f5, f6, f7], by simp [go_sem, c0, c1, c2, c3, c4, c5, c6, c7, f0, f1, f2, f3, f4, f5, f6, f7]⟩
theorem st8_below {N : Nat} {w0 w : World} {b : Nat} {y : Le} (h : Below N w0 w) (hb : N ≤ b) : Below N w0 (st8 w b y) := by
  unfold st8
  exact (((((((h.setCell hb _).setCell hb _).setCell hb _).setCell hb _).setCell hb _).setCell hb _).setCell hb _).setCell hb _

theorem greT_mem {f : Int → Option Qu} {g : Int → Int × Int} {p q : Int} {l : List Le} {b : Le} : ∀ {k : Nat}, k ≤ l.length → greT f g p q l k = some b → b ∈ l := by
  intro k
  induction k with
  | zero => intro _ h; cases h
  | succ k ih =>
    intro hk h
    unfold greT at h
    split at h
    · split at h
      · cases h; exact la_mem (by omega)
      · rename_i e
        split at h
        · cases h; exact la_mem (by omega)
        · cases h; exact ih (by omega) e
    · exact ih (by omega) h

set_option maxRecDepth 100000 in
set_option maxHeartbeats 4000000 in
theorem greatest_any {mq mu n m : Nat} {f : Int → Option Qu} {h : Int → Bool} {g : Int → Int × Int} (p1 p2 : Int) (a : Option Addr) (len cap : Nat) (l : List Le) (w : World) (hl : HoldsL w a len cap l) (hok : ∀ x ∈ l, x.okB) (hQ : QMp w mq n f) (hU : UM w mu m h g) :
    Calls Try.prog 28 #[.agg #[.map (some mq), .map (some mu)], .slice a len cap, .agg #[.int .i64 p1, .int .i64 p2]] w fun e w' => e = .returned (.tuple #[.agg (((greT f g p1 p2 l l.length).getD le0).cs).toArray, .bool (greT f g p1 p2 l l.length).isSome]) ∧ Below w.heap.size w w' := by
  have HQ := hid hl
  have HL := hid hl.1.1
  have HO := hid hok
  have HQM := hid hQ
  have HUM := hid hU
  have hcap := hl.1.2.1
  have hcm := hl.1.2.2.1
  clear hl hok hQ hU
  have BA : Hid (Below w.heap.size w (((w.alloc (.cells #[.map (some mq), .map (some mu)] 64)).alloc (.cells #[.int .i64 p1, .int .i64 p2] 32)).alloc (.cells #[.int .i64 0, .int .i64 0, .int .i64 0, .slice none 0 0, .int .i64 0, .int .i64 0, .int .i64 0, .bool false] 38))) := ((Below.refl _ w).alloc (Nat.le_refl _) _).alloc (by simp) _ |>.alloc (by simp; omega) _
  have z0 : (((w.alloc (.cells #[.map (some mq), .map (some mu)] 64)).alloc (.cells #[.int .i64 p1, .int .i64 p2] 32)).alloc (.cells #[.int .i64 0, .int .i64 0, .int .i64 0, .slice none 0 0, .int .i64 0, .int .i64 0, .int .i64 0, .bool false] 38)).cell? ⟨w.heap.size, 0, none⟩ = some (.map (some mq)) := by simp [go_sem]
  have z1 : (((w.alloc (.cells #[.map (some mq), .map (some mu)] 64)).alloc (.cells #[.int .i64 p1, .int .i64 p2] 32)).alloc (.cells #[.int .i64 0, .int .i64 0, .int .i64 0, .slice none 0 0, .int .i64 0, .int .i64 0, .int .i64 0, .bool false] 38)).cell? ⟨w.heap.size, 1, none⟩ = some (.map (some mu)) := by simp [go_sem]
  have t0 : (((w.alloc (.cells #[.map (some mq), .map (some mu)] 64)).alloc (.cells #[.int .i64 p1, .int .i64 p2] 32)).alloc (.cells #[.int .i64 0, .int .i64 0, .int .i64 0, .slice none 0 0, .int .i64 0, .int .i64 0, .int .i64 0, .bool false] 38)).cell? ⟨w.heap.size + 1, 0, none⟩ = some (.int .i64 p1) := by simp [go_sem]
  have t1 : (((w.alloc (.cells #[.map (some mq), .map (some mu)] 64)).alloc (.cells #[.int .i64 p1, .int .i64 p2] 32)).alloc (.cells #[.int .i64 0, .int .i64 0, .int .i64 0, .slice none 0 0, .int .i64 0, .int .i64 0, .int .i64 0, .bool false] 38)).cell? ⟨w.heap.size + 1, 1, none⟩ = some (.int .i64 p2) := by simp [go_sem]
  have RL : FreeL (((w.alloc (.cells #[.map (some mq), .map (some mu)] 64)).alloc (.cells #[.int .i64 p1, .int .i64 p2] 32)).alloc (.cells #[.int .i64 0, .int .i64 0, .int .i64 0, .slice none 0 0, .int .i64 0, .int .i64 0, .int .i64 0, .bool false] 38)) (w.heap.size + 1 + 1) le0 := ⟨⟨by simp [go_sem, le0], by simp [go_sem, le0], by simp [go_sem, le0], by simp [go_sem, le0], by simp [go_sem, le0], by simp [go_sem, le0], by simp [go_sem, le0], by simp [go_sem, le0]⟩, by simp [go_sem], by simp [go_sem], by simp [go_sem], by simp [go_sem], by simp [go_sem], by simp [go_sem], by simp [go_sem], by simp [go_sem]⟩
  go_enter Try.func28, Try.ntmps28
  go_wp2_with fail
  generalize hW3 : (((w.alloc (.cells #[.map (some mq), .map (some mu)] 64)).alloc (.cells #[.int .i64 p1, .int .i64 p2] 32)).alloc (.cells #[.int .i64 0, .int .i64 0, .int .i64 0, .slice none 0 0, .int .i64 0, .int .i64 0, .int .i64 0, .bool false] 38)) = X3 at *
  clear hW3
  have ZB : FreeL (X3.alloc (.cells #[.int .i64 0, .int .i64 0, .int .i64 0, .slice none 0 0, .int .i64 0, .int .i64 0, .int .i64 0, .bool false] 38)) X3.heap.size le0 := ⟨⟨by simp [go_sem, le0], by simp [go_sem, le0], by simp [go_sem, le0], by simp [go_sem, le0], by simp [go_sem, le0], by simp [go_sem, le0], by simp [go_sem, le0], by simp [go_sem, le0]⟩, by simp [go_sem], by simp [go_sem], by simp [go_sem], by simp [go_sem], by simp [go_sem], by simp [go_sem], by simp [go_sem], by simp [go_sem]⟩
  have HZB := hid ZB
  have HRL := hid RL
  have HT := hid (And.intro z0 (And.intro z1 (And.intro t0 t1)))
  have BZ := hid ((Below.refl X3.heap.size X3).alloc (Nat.le_refl _) (.cells #[.int .i64 0, .int .i64 0, .int .i64 0, .slice none 0 0, .int .i64 0, .int .i64 0, .int .i64 0, .bool false] 38))
  have UY := hid (fun (x : Le) (hx : x ∈ l) W (hW : Below X3.heap.size X3 W) => umay_any (f := f) x.ta x.qu x.no x.me x.si x.un x.sa x.sl x.sc x.st W ((HQM.out.below BA.out).below hW) ((HUM.out.below BA.out).below hW) (HO.out x hx).1)
  have UB_ := hid (fun (x : Le) (hx : x ∈ l) (y : Le) (hy : I64 y.qu) W (hW : Below X3.heap.size X3 W) => ubefore_any (f := f) x.ta x.qu x.no x.me x.si x.un x.sa x.sl x.sc x.st y.ta y.qu y.no y.me y.si y.un y.sa y.sl y.sc y.st p1 p2 W ((HQM.out.below BA.out).below hW) ((HUM.out.below BA.out).below hW) (HO.out x hx).1 hy)
  clear z0 z1 t0 t1 RL ZB
  go_wp2_with fail
  go_step3
  go_wp2_with fail
  go_step3
  go_wp2_with fail
  go_loopw [9, 14] (fun fd i wr => ∃ k : Nat, k ≤ len ∧ i = .int .i64 (k : Int) ∧ fd = .bool (greT f g p1 p2 l k).isSome ∧ Hid (FreeL wr X3.heap.size ((greT f g p1 p2 l k).getD le0)) ∧ Hid (Below X3.heap.size X3 wr)) (fun fd i _ => len - (intOf i).toNat)
  case atStart => exact ⟨0, by omega, rfl, rfl, HZB, BZ⟩
  case round =>
    obtain ⟨k, hk, rfl, rfl, hF, hB⟩ := hrel
    clear HZB BZ
    obtain ⟨z0, z1, t0, t1⟩ := HT.out
    replace z0 := keepc hB.out z0
    replace z1 := keepc hB.out z1
    replace t0 := keepc hB.out t0
    replace t1 := keepc hB.out t1
    by_cases hlt : k < len
    · have hlt' : k < l.length := by rw [HL.out]; exact hlt
      obtain ⟨b, off, rfl, hbl, Rw⟩ := HQ.out.1.rowL (by omega)
      obtain ⟨d1, d2, d3, d4, d5, d6, d7, d8⟩ := Rw k hlt
      have c1 := keepc hB.out (keepc BA.out d1)
      have c2 := keepc hB.out (keepc BA.out d2)
      have c3 := keepc hB.out (keepc BA.out d3)
      have c4 := keepc hB.out (keepc BA.out d4)
      have c5 := keepc hB.out (keepc BA.out d5)
      have c6 := keepc hB.out (keepc BA.out d6)
      have c7 := keepc hB.out (keepc BA.out d7)
      have c8 := keepc hB.out (keepc BA.out d8)
      have ka : (0 : Int) ≤ (k : Int) := by omega
      have kb : (k : Int) < (len : Int) := by omega
      have UX := hid (UY.out (la l k) (la_mem hlt'))
      have BX := hid (UB_.out (la l k) (la_mem hlt'))
      have NX : Hid (greT f g p1 p2 l (k + 1) = if mayB f g (la l k).qu ((la l k).sl : Int) (la l k).me = true then (match greT f g p1 p2 l k with | none => some (la l k) | some b => if befB f g (la l k).ta (la l k).qu b.ta b.qu p1 p2 = true then some (la l k) else some b) else greT f g p1 p2 l k) := rfl
      clear d1 d2 d3 d4 d5 d6 d7 d8 Rw
      generalize la l k = x at *
      obtain ⟨x1, x2, x3, sa, sl, sc, x5, x6, x7, x8, co⟩ := x
      simp only at c1 c2 c3 c4 c5 c6 c7 c8 UX BX NX
      have BV := hid (hB.out.alloc hB.out.size (.cells #[.int .i64 x1, .int .i64 x2, .int .i64 x3, .slice sa sl sc, .int .i64 x5, .int .i64 x6, .int .i64 x7, .bool x8] 38))
      have FV := hid (hF.out.below ((Below.refl wr.heap.size wr).alloc (Nat.le_refl _) (.cells #[.int .i64 x1, .int .i64 x2, .int .i64 x3, .slice sa sl sc, .int .i64 x5, .int .i64 x6, .int .i64 x7, .bool x8] 38)))
      have kz0 := keepc ((Below.refl wr.heap.size wr).alloc (Nat.le_refl _) (.cells #[.int .i64 x1, .int .i64 x2, .int .i64 x3, .slice sa sl sc, .int .i64 x5, .int .i64 x6, .int .i64 x7, .bool x8] 38)) z0
      have kz1 := keepc ((Below.refl wr.heap.size wr).alloc (Nat.le_refl _) (.cells #[.int .i64 x1, .int .i64 x2, .int .i64 x3, .slice sa sl sc, .int .i64 x5, .int .i64 x6, .int .i64 x7, .bool x8] 38)) z1
      cases hm : mayB f g x2 (sl : Int) x5
      · have NN : Hid (greT f g p1 p2 l (k + 1) = greT f g p1 p2 l k) := by unfold Hid; rw [NX.out, hm]; rfl
        rw [hm] at UX
        clear NX hm
        go_wp2_with fail
        refine (UX.out _ BV.out).mono ?_
        rintro e w5 ⟨rfl, b5⟩
        have B5 := hid (BV.out.trans (b5.mono BV.out.size))
        have F5 := hid (FV.out.below b5)
        clear b5
        go_wp2_with fail
        refine ⟨⟨k + 1, by omega, by go_num, by rw [NN.out], by unfold Hid; rw [NN.out]; exact F5.out, B5⟩, ?_⟩
        simp [intOf]; omega
      · rw [hm] at UX
        have LT : Hid (greT f g p1 p2 l (k + 1) = (match greT f g p1 p2 l k with | none => some ⟨x1, x2, x3, sa, sl, sc, x5, x6, x7, x8, co⟩ | some b => if befB f g x1 x2 b.ta b.qu p1 p2 = true then some ⟨x1, x2, x3, sa, sl, sc, x5, x6, x7, x8, co⟩ else some b)) := by unfold Hid; rw [NX.out, hm]; rfl
        have GM : Hid (∀ b, greT f g p1 p2 l k = some b → I64 b.qu) := fun b hb => (HO.out b (greT_mem (by omega) hb)).1
        clear NX hm
        generalize greT f g p1 p2 l k = o at *
        have kt0 := keepc ((Below.refl wr.heap.size wr).alloc (Nat.le_refl _) (.cells #[.int .i64 x1, .int .i64 x2, .int .i64 x3, .slice sa sl sc, .int .i64 x5, .int .i64 x6, .int .i64 x7, .bool x8] 38)) t0
        have kt1 := keepc ((Below.refl wr.heap.size wr).alloc (Nat.le_refl _) (.cells #[.int .i64 x1, .int .i64 x2, .int .i64 x3, .slice sa sl sc, .int .i64 x5, .int .i64 x6, .int .i64 x7, .bool x8] 38)) t1
        rcases o with _ | y
        · have NN : Hid (greT f g p1 p2 l (k + 1) = some ⟨x1, x2, x3, sa, sl, sc, x5, x6, x7, x8, co⟩) := LT.out
          clear GM LT
          go_wp2_with fail
          refine (UX.out _ BV.out).mono ?_
          rintro e w5 ⟨rfl, b5⟩
          have B5 := hid (BV.out.trans (b5.mono BV.out.size))
          have F5 := hid (FV.out.below b5)
          have m0 := keepc b5 (show (wr.alloc (.cells #[.int .i64 x1, .int .i64 x2, .int .i64 x3, .slice sa sl sc, .int .i64 x5, .int .i64 x6, .int .i64 x7, .bool x8] 38)).cell? ⟨wr.heap.size, 0, none⟩ = some (.int .i64 x1) by simp [go_sem])
          have m1 := keepc b5 (show (wr.alloc (.cells #[.int .i64 x1, .int .i64 x2, .int .i64 x3, .slice sa sl sc, .int .i64 x5, .int .i64 x6, .int .i64 x7, .bool x8] 38)).cell? ⟨wr.heap.size, 1, none⟩ = some (.int .i64 x2) by simp [go_sem])
          have m2 := keepc b5 (show (wr.alloc (.cells #[.int .i64 x1, .int .i64 x2, .int .i64 x3, .slice sa sl sc, .int .i64 x5, .int .i64 x6, .int .i64 x7, .bool x8] 38)).cell? ⟨wr.heap.size, 2, none⟩ = some (.int .i64 x3) by simp [go_sem])
          have m3 := keepc b5 (show (wr.alloc (.cells #[.int .i64 x1, .int .i64 x2, .int .i64 x3, .slice sa sl sc, .int .i64 x5, .int .i64 x6, .int .i64 x7, .bool x8] 38)).cell? ⟨wr.heap.size, 3, none⟩ = some (.slice sa sl sc) by simp [go_sem])
          have m4 := keepc b5 (show (wr.alloc (.cells #[.int .i64 x1, .int .i64 x2, .int .i64 x3, .slice sa sl sc, .int .i64 x5, .int .i64 x6, .int .i64 x7, .bool x8] 38)).cell? ⟨wr.heap.size, 4, none⟩ = some (.int .i64 x5) by simp [go_sem])
          have m5 := keepc b5 (show (wr.alloc (.cells #[.int .i64 x1, .int .i64 x2, .int .i64 x3, .slice sa sl sc, .int .i64 x5, .int .i64 x6, .int .i64 x7, .bool x8] 38)).cell? ⟨wr.heap.size, 5, none⟩ = some (.int .i64 x6) by simp [go_sem])
          have m6 := keepc b5 (show (wr.alloc (.cells #[.int .i64 x1, .int .i64 x2, .int .i64 x3, .slice sa sl sc, .int .i64 x5, .int .i64 x6, .int .i64 x7, .bool x8] 38)).cell? ⟨wr.heap.size, 6, none⟩ = some (.int .i64 x7) by simp [go_sem])
          have m7 := keepc b5 (show (wr.alloc (.cells #[.int .i64 x1, .int .i64 x2, .int .i64 x3, .slice sa sl sc, .int .i64 x5, .int .i64 x6, .int .i64 x7, .bool x8] 38)).cell? ⟨wr.heap.size, 7, none⟩ = some (.bool x8) by simp [go_sem])
          have F6 := hid (F5.out.set (y := ⟨x1, x2, x3, sa, sl, sc, x5, x6, x7, x8, co⟩))
          have B6 := hid (st8_below (y := ⟨x1, x2, x3, sa, sl, sc, x5, x6, x7, x8, co⟩) B5.out (Nat.le_refl _))
          unfold st8 at F6 B6
          obtain ⟨⟨e0, e1, e2, e3, e4, e5, e6, e7⟩, g0, g1, g2, g3, g4, g5, g6, g7⟩ := F5.out
          simp only [Option.getD_none, le0] at e0 e1 e2 e3 e4 e5 e6 e7
          clear b5 UX c1 c2 c3 c4 c5 c6 c7 c8
          go_wp2_with fail
          refine ⟨⟨k + 1, by omega, by go_num, by rw [NN.out]; rfl, by unfold Hid; rw [NN.out]; exact F6.out, B6⟩, ?_⟩
          simp [intOf]; omega
        · have hy := GM.out y rfl
          have BY := hid (BX.out y hy)
          clear GM BX
          go_wp2_with fail
          refine (UX.out _ BV.out).mono ?_
          rintro e w5 ⟨rfl, b5⟩
          have B5 := hid (BV.out.trans (b5.mono BV.out.size))
          have F5 := hid (FV.out.below b5)
          replace kz0 := keepc b5 kz0
          replace kz1 := keepc b5 kz1
          replace kt0 := keepc b5 kt0
          replace kt1 := keepc b5 kt1
          have m0 := keepc b5 (show (wr.alloc (.cells #[.int .i64 x1, .int .i64 x2, .int .i64 x3, .slice sa sl sc, .int .i64 x5, .int .i64 x6, .int .i64 x7, .bool x8] 38)).cell? ⟨wr.heap.size, 0, none⟩ = some (.int .i64 x1) by simp [go_sem])
          have m1 := keepc b5 (show (wr.alloc (.cells #[.int .i64 x1, .int .i64 x2, .int .i64 x3, .slice sa sl sc, .int .i64 x5, .int .i64 x6, .int .i64 x7, .bool x8] 38)).cell? ⟨wr.heap.size, 1, none⟩ = some (.int .i64 x2) by simp [go_sem])
          have m2 := keepc b5 (show (wr.alloc (.cells #[.int .i64 x1, .int .i64 x2, .int .i64 x3, .slice sa sl sc, .int .i64 x5, .int .i64 x6, .int .i64 x7, .bool x8] 38)).cell? ⟨wr.heap.size, 2, none⟩ = some (.int .i64 x3) by simp [go_sem])
          have m3 := keepc b5 (show (wr.alloc (.cells #[.int .i64 x1, .int .i64 x2, .int .i64 x3, .slice sa sl sc, .int .i64 x5, .int .i64 x6, .int .i64 x7, .bool x8] 38)).cell? ⟨wr.heap.size, 3, none⟩ = some (.slice sa sl sc) by simp [go_sem])
          have m4 := keepc b5 (show (wr.alloc (.cells #[.int .i64 x1, .int .i64 x2, .int .i64 x3, .slice sa sl sc, .int .i64 x5, .int .i64 x6, .int .i64 x7, .bool x8] 38)).cell? ⟨wr.heap.size, 4, none⟩ = some (.int .i64 x5) by simp [go_sem])
          have m5 := keepc b5 (show (wr.alloc (.cells #[.int .i64 x1, .int .i64 x2, .int .i64 x3, .slice sa sl sc, .int .i64 x5, .int .i64 x6, .int .i64 x7, .bool x8] 38)).cell? ⟨wr.heap.size, 5, none⟩ = some (.int .i64 x6) by simp [go_sem])
          have m6 := keepc b5 (show (wr.alloc (.cells #[.int .i64 x1, .int .i64 x2, .int .i64 x3, .slice sa sl sc, .int .i64 x5, .int .i64 x6, .int .i64 x7, .bool x8] 38)).cell? ⟨wr.heap.size, 6, none⟩ = some (.int .i64 x7) by simp [go_sem])
          have m7 := keepc b5 (show (wr.alloc (.cells #[.int .i64 x1, .int .i64 x2, .int .i64 x3, .slice sa sl sc, .int .i64 x5, .int .i64 x6, .int .i64 x7, .bool x8] 38)).cell? ⟨wr.heap.size, 7, none⟩ = some (.bool x8) by simp [go_sem])
          obtain ⟨⟨e0, e1, e2, e3, e4, e5, e6, e7⟩, g0, g1, g2, g3, g4, g5, g6, g7⟩ := F5.out
          simp only [Option.getD_some] at e0 e1 e2 e3 e4 e5 e6 e7
          have EY : Hid (greT f g p1 p2 l (k + 1) = if befB f g x1 x2 y.ta y.qu p1 p2 = true then some ⟨x1, x2, x3, sa, sl, sc, x5, x6, x7, x8, co⟩ else some y) := LT.out
          clear LT UX c1 c2 c3 c4 c5 c6 c7 c8
          cases hbf : befB f g x1 x2 y.ta y.qu p1 p2
          · have NN : Hid (greT f g p1 p2 l (k + 1) = some y) := by unfold Hid; rw [EY.out, hbf]; rfl
            rw [hbf] at BY
            clear EY hbf
            go_wp2_with fail
            refine (BY.out _ B5.out).mono ?_
            rintro e w6 ⟨rfl, b6⟩
            have F6 := hid (F5.out.below b6)
            have B6 := hid (B5.out.trans (b6.mono B5.out.size))
            clear b6 BY
            go_wp2_with fail
            refine ⟨⟨k + 1, by omega, by go_num, by rw [NN.out]; rfl, by unfold Hid; rw [NN.out]; exact F6.out, B6⟩, ?_⟩
            simp [intOf]; omega
          · have NN : Hid (greT f g p1 p2 l (k + 1) = some ⟨x1, x2, x3, sa, sl, sc, x5, x6, x7, x8, co⟩) := by unfold Hid; rw [EY.out, hbf]; rfl
            rw [hbf] at BY
            clear EY hbf
            go_wp2_with fail
            refine (BY.out _ B5.out).mono ?_
            rintro e w6 ⟨rfl, b6⟩
            replace m0 := keepc b6 m0
            replace m1 := keepc b6 m1
            replace m2 := keepc b6 m2
            replace m3 := keepc b6 m3
            replace m4 := keepc b6 m4
            replace m5 := keepc b6 m5
            replace m6 := keepc b6 m6
            replace m7 := keepc b6 m7
            have F6 := hid (F5.out.below b6)
            have B6 := hid (B5.out.trans (b6.mono B5.out.size))
            clear e0 e1 e2 e3 e4 e5 e6 e7 g0 g1 g2 g3 g4 g5 g6 g7
            have F7 := hid (F6.out.set (y := ⟨x1, x2, x3, sa, sl, sc, x5, x6, x7, x8, co⟩))
            have B7 := hid (st8_below (y := ⟨x1, x2, x3, sa, sl, sc, x5, x6, x7, x8, co⟩) B6.out (Nat.le_refl _))
            unfold st8 at F7 B7
            obtain ⟨⟨e0, e1, e2, e3, e4, e5, e6, e7⟩, g0, g1, g2, g3, g4, g5, g6, g7⟩ := F6.out
            clear b6 BY
            go_wp2_with fail
            refine ⟨⟨k + 1, by omega, by go_num, by rw [NN.out]; rfl, by unfold Hid; rw [NN.out]; exact F7.out, B7⟩, ?_⟩
            simp [intOf]; omega
    · obtain rfl : k = len := by omega
      have RR := HRL.out.below hB.out
      obtain ⟨⟨r0, r1, r2, r3, r4, r5, r6, r7⟩, g0, g1, g2, g3, g4, g5, g6, g7⟩ := RR
      obtain ⟨⟨e0, e1, e2, e3, e4, e5, e6, e7⟩, _⟩ := hF.out
      simp only [le0] at r0 r1 r2 r3 r4 r5 r6 r7
      have BE := hid (BA.out.trans (hB.out.mono BA.out.size))
      have HG : Hid (greT f g p1 p2 l l.length = greT f g p1 p2 l k) := by unfold Hid; rw [HL.out]
      generalize greT f g p1 p2 l k = o at *
      generalize hy : o.getD le0 = y at *
      have HY := hid hy
      clear hy UY UB_ HRL
      go_wp2_with fail
      rw [Exit.noGoto_ret]
      have S8 := hid (FreeL.set (y := y) (⟨⟨r0, r1, r2, r3, r4, r5, r6, r7⟩, g0, g1, g2, g3, g4, g5, g6, g7⟩ : FreeL wr (w.heap.size + 1 + 1) le0))
      have BS := hid (st8_below (y := y) BE.out (show w.heap.size ≤ w.heap.size + 1 + 1 by omega))
      unfold st8 at S8 BS
      obtain ⟨⟨s0, s1, s2, s3, s4, s5, s6, s7⟩, _⟩ := S8.out
      exact bodyPost_ret (v := .tuple #[.agg #[.int .i64 y.ta, .int .i64 y.qu, .int .i64 y.no, .slice y.sa y.sl y.sc, .int .i64 y.me, .int .i64 y.si, .int .i64 y.un, .bool y.st], .bool o.isSome]) (by simp only [results, Try.results28]; simp [go_sem, s0, s1, s2, s3, s4, s5, s6, s7, r0, r1, r2, r3, r4, r5, r6, r7, g0, g1, g2, g3, g4, g5, g6, g7]) rfl ⟨by rw [HG.out, HY.out]; rfl, BS.out⟩
end Go.Proofs.Ytdbkjcnanffibaa
