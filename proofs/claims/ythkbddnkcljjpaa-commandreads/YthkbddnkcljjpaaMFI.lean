/-
  Contracts of furlongref10: numbers in a row.
  Contracts of furlongref10: a list of numbers that is read.
  Contracts of furlongref10: a queue, a node that is read.
  Contracts of furlongref10: a task, a lease that is read.
  Contracts of furlongref10: a list of leases that is read.
  What a loop of the document's State leaves; rows that stay where others grow.
  Contracts of furlongref10: an answer that is read.
  'append' among operations whose order is drawn; a literal's row.
  Contracts of furlongref10: a state that is read.
-/
import Derived.Test.YthkbddnkcljjpaaMFA
import Derived.Test.YthkbddnkcljjpaaMCR
import Derived.Test.YthkbddnkcljjpaaMEJ
namespace Go.Proofs.Ythkbddnkcljjpaa
open Go.RowKit Go.Deep Go.Maps
set_option linter.unusedVariables false
set_option linter.unusedSimpArgs false
theorem tkc_ls (l : List Int) (A E : Int) : ∀ k, tkc l A E k = (lsV (tkI l) A E k, lsS (tkI l) A E (k + 1))
  | 0 => rfl
  | k + 1 => by
    show tkI l (tkc l A E k).2.1 (tkc l A E k).2.2 = _
    rw [tkc_ls l A E k]
    rfl
/-- A number that stands, or none yet. -/
def nuV (l : List Int) (A E : Int) (k j : Nat) : Value := if j < k then .int .i64 (lsV (tkI l) A E j) else .int .i64 0
theorem nuV_set (l : List Int) (A E : Int) (k K : Nat) (h : k < K) : (((List.range K).map (nuV l A E k)).toArray).setIfInBounds k (.int .i64 (lsV (tkI l) A E k)) = ((List.range K).map (nuV l A E (k + 1))).toArray := by
  apply Array.ext_getElem?
  intro i
  rw [Array.getElem?_setIfInBounds]
  simp only [List.getElem?_toArray, List.getElem?_map, List.size_toArray, List.length_map, List.length_range]
  by_cases e : k = i
  · subst e
    rw [if_pos rfl, if_pos h, List.getElem?_range h]
    simp [nuV]
  · rw [if_neg e]
    by_cases hi : i < K
    · rw [List.getElem?_range hi]
      simp only [Option.map_some]
      congr 1
      unfold nuV
      by_cases h1 : i < k
      · rw [if_pos h1, if_pos (by omega)]
      · rw [if_neg h1, if_neg (by omega)]
    · rw [List.getElem?_eq_none (by simpa using hi)]; rfl
theorem nuV_at (l : List Int) (A E : Int) (k K j : Nat) (h : j < K) : (((List.range K).map (nuV l A E k)).toArray)[j]? = some (nuV l A E k j) := by
  simp [List.getElem?_range h]
theorem results_cell2 {fn : Func} {t x : Tmp} {ty : TypeId} (h : fn.results = #[.cell t ty, .tmp x]) {tmps : Array Value} {P : Program} {w : World} {a : Addr} {v : Value} (ht : tmps.getD t undef = .pointer (some a)) (hl : (loadVar ty a).run P w = .ok v w) : (results fn tmps).run P w = .ok (.tuple #[v, tmps.getD x undef]) w := by
  rw [Array.getD_eq_getD_getElem?] at ht
  simp [results, h, ht, asAddr, hl]
set_option maxRecDepth 100000 in
theorem sizeRead : (Try.prog.info? 102).map (·.size) = some 3 := by kernel_rfl

set_option maxRecDepth 100000 in
theorem make_2 (w : World) : (Instr.makeSlice 75 (.int .i64 2) (.int .i64 2)).run Try.prog w = .ok (.slice (some ⟨w.heap.size, 0, none⟩) 2 2) (w.alloc (.cells #[.int .i64 0, .int .i64 0] 2)) := by kernel_rfl
set_option maxRecDepth 100000 in
set_option maxHeartbeats 4000000 in
theorem dnums2_any (a : Option Addr) (n c : Nat) (l : List Int) (A E : Int) (w : World) (hl : HoldsB w a n c l) (h0 : 0 ≤ A) (h1 : A ≤ n) :
    Calls Try.prog 52 #[.agg #[.slice a n c, .int .i64 A, .int .i64 E], .int .i64 2] w fun e w' => ∃ g, e = .returned (.tuple #[.agg #[.slice a n c, .int .i64 (lsS (tkI l) A E 2).1, .int .i64 (lsS (tkI l) A E 2).2], .slice (some ⟨g, 0, none⟩) 2 2]) ∧ w.heap.size ≤ g ∧ Blk w' g 2 #[.int .i64 (lsV (tkI l) A E 0), .int .i64 (lsV (tkI l) A E 1)] ∧ Below w.heap.size w w' := by
  have HL := hid hl
  have hlen := hl.1
  have hnm := hl.2.1
  have AT := hid (fun k => lsS_at (pe := tkI l) (n := n) (E := E) (fun A E h0 h1 => by have := tkI_at l A E h0 (by omega); omega) h0 h1 k)
  clear hl
  go_enter Try.func52, Try.ntmps52
  go_upto_region 3 with fail
  rw [make_2]
  go_upto_region 3 with fail
  have B0 := hid ((((Below.refl w.heap.size w).alloc (Nat.le_refl _) (.cells #[.slice a n c, .int .i64 A, .int .i64 E] 102)).alloc (by simp) (.cells #[.slice none 0 0, .int .i64 0, .int .i64 0] 102)).alloc (by simp; omega) (.cells #[.int .i64 0, .int .i64 0] 2))
  have X0 := hid (((Blk.alloc w #[.slice a n c, .int .i64 A, .int .i64 E] (102)).below ((Below.refl _ _).alloc (Nat.le_refl _) (.cells #[.slice none 0 0, .int .i64 0, .int .i64 0] 102))).below ((Below.refl _ _).alloc (Nat.le_refl _) (.cells #[.int .i64 0, .int .i64 0] 2)))
  have Y0 := hid ((Blk.alloc (w.alloc (.cells #[.slice a n c, .int .i64 A, .int .i64 E] 102)) #[.slice none 0 0, .int .i64 0, .int .i64 0] (102)).below ((Below.refl _ _).alloc (Nat.le_refl _) (.cells #[.int .i64 0, .int .i64 0] 2)))
  have G0 := hid (Blk.alloc ((w.alloc (.cells #[.slice a n c, .int .i64 A, .int .i64 E] 102)).alloc (.cells #[.slice none 0 0, .int .i64 0, .int .i64 0] 102)) #[.int .i64 0, .int .i64 0] (2))
  generalize (((w.alloc (.cells #[.slice a n c, .int .i64 A, .int .i64 E] 102)).alloc (.cells #[.slice none 0 0, .int .i64 0, .int .i64 0] 102)).alloc (.cells #[.int .i64 0, .int .i64 0] 2)) = W0 at *
  rw [World.size_alloc, World.size_alloc] at G0
  rw [World.size_alloc] at Y0
  go_loopw [11] (fun i wr => ∃ k : Nat, k ≤ 2 ∧ i = .int .i64 (k : Int) ∧ Hid (Blk wr w.heap.size 102 #[.slice a n c, .int .i64 (lsS (tkI l) A E k).1, .int .i64 (lsS (tkI l) A E k).2]) ∧ Hid (Blk wr (w.heap.size + 1) 102 #[.slice none 0 0, .int .i64 0, .int .i64 0]) ∧ Hid (Blk wr (w.heap.size + 1 + 1) 2 ((List.range 2).map (nuV l A E k)).toArray) ∧ Hid (Below w.heap.size w wr)) (fun i _ => 2 - (intOf i).toNat)
  case atStart => exact ⟨0, by omega, rfl, X0, Y0, G0, B0⟩
  case round =>
    clear X0 Y0 G0 B0
    obtain ⟨k, hk', rfl, hX, hY, hG, hB⟩ := hrel
    have LD := hX.out.loadAt Try.underlying102 rfl sizeRead
    by_cases hlt : k < 2
    · have ka : (0 : Int) ≤ (k : Int) := by omega
      have kb : (k : Int) < (2 : Int) := by omega
      have C1 := hid (dnum_any a n c l (lsS (tkI l) A E k).1 (lsS (tkI l) A E k).2 wr (HL.out.below hB.out) ⟨by have := AT.out k; omega, by have := AT.out k; omega⟩)
      have EV : Hid (lsV (tkI l) A E k = (tkI l (lsS (tkI l) A E k).1 (lsS (tkI l) A E k).2).1) := rfl
      have ES : Hid (lsS (tkI l) A E (k + 1) = (tkI l (lsS (tkI l) A E k).1 (lsS (tkI l) A E k).2).2) := rfl
      have NS := hid (nuV_set l A E k 2 hlt)
      have NA := hid (nuV_at l A E k 2 k hlt)
      generalize ((List.range 2).map (nuV l A E k)).toArray = CG at *
      generalize nuV l A E k k = nv at *
      generalize tkI l (lsS (tkI l) A E k).1 (lsS (tkI l) A E k).2 = Z at *
      obtain ⟨z, A1, E1⟩ := Z
      simp only at C1 EV ES
      rw [EV.out] at NS
      generalize (lsS (tkI l) A E k).1 = A0 at *
      generalize (lsS (tkI l) A E k).2 = E0 at *
      go_wp2_with (refine wpList_load_at 102 rfl (.tmp 2) rfl _ _ rfl _ LD ?_)
      with_reducible refine C1.out.mono ?_
      rintro e w2 ⟨rfl, b2⟩
      have X2 := hid (hX.out.below b2)
      have Y2 := hid (hY.out.below b2)
      have G2 := hid (hG.out.below b2)
      have B2 := hid (hB.out.trans (b2.mono hB.out.size))
      have GX := hid (G2.out.other (ds := #[.slice a n c, .int .i64 A1, .int .i64 E1]) (show w.heap.size + 1 + 1 ≠ w.heap.size by omega))
      have cG := GX.out.cellAt k _ NA.out
      have fG : (w2.setRow w.heap.size #[.slice a n c, .int .i64 A1, .int .i64 E1]).frozen? ⟨w.heap.size + 1 + 1, k, none⟩ = false := GX.out.froz
      have BH := X2.out
      unfold Blk at BH
      clear C1 LD hX hY hG hB b2 G2
      go_wp2_with (refine wpList_store_row rfl 102 (.tmp 2) (.tmp 19) rfl w.heap.size #[.slice a n c, .int .i64 A1, .int .i64 E1] rfl rfl 102 _ BH sizeRead rfl (by simp [Value.oneCell']) ?_)
      refine ⟨⟨k + 1, by omega, by go_num, ?_, ?_, ?_, ?_⟩, ?_⟩
      · rw [ES.out]; exact (X2.out.row _).cellO _ _ (by show w.heap.size ≠ w.heap.size + 1 + 1; omega)
      · exact (Y2.out.other (by omega)).cellO _ _ (by show w.heap.size + 1 ≠ w.heap.size + 1 + 1; omega)
      · rw [← NS.out]; exact GX.out.put _
      · exact (setRow_below B2.out (Nat.le_refl _)).setCell (by show w.heap.size ≤ w.heap.size + 1 + 1; omega) _
      · simp [intOf]; omega
    · obtain rfl : k = 2 := by omega
      have kb : ¬ (((2 : Nat) : Int) < (2 : Int)) := by omega
      have BH := hY.out
      unfold Blk at BH
      go_wp2_with (first | refine wpList_load_at 102 rfl (.tmp 2) rfl _ _ rfl _ LD ?_ | refine wpList_store_row rfl 102 (.tmp 4) (.tmp 23) rfl (w.heap.size + 1) #[.slice a n c, .int .i64 (lsS (tkI l) A E 2).1, .int .i64 (lsS (tkI l) A E 2).2] rfl rfl 102 _ BH sizeRead rfl (by simp [Value.oneCell']) ?_)
      refine bodyPost_ret (results_cell2 rfl rfl ((hY.out.row _).loadVar Try.underlying102 rfl sizeRead)) rfl ?_
      exact ⟨w.heap.size + 1 + 1, rfl, by omega, hG.out.other (by omega), setRow_below hB.out (by omega)⟩

set_option maxRecDepth 100000 in
theorem make_3 (w : World) : (Instr.makeSlice 75 (.int .i64 3) (.int .i64 3)).run Try.prog w = .ok (.slice (some ⟨w.heap.size, 0, none⟩) 3 3) (w.alloc (.cells #[.int .i64 0, .int .i64 0, .int .i64 0] 2)) := by kernel_rfl
set_option maxRecDepth 100000 in
set_option maxHeartbeats 4000000 in
theorem dnums3_any (a : Option Addr) (n c : Nat) (l : List Int) (A E : Int) (w : World) (hl : HoldsB w a n c l) (h0 : 0 ≤ A) (h1 : A ≤ n) :
    Calls Try.prog 52 #[.agg #[.slice a n c, .int .i64 A, .int .i64 E], .int .i64 3] w fun e w' => ∃ g, e = .returned (.tuple #[.agg #[.slice a n c, .int .i64 (lsS (tkI l) A E 3).1, .int .i64 (lsS (tkI l) A E 3).2], .slice (some ⟨g, 0, none⟩) 3 3]) ∧ w.heap.size ≤ g ∧ Blk w' g 2 #[.int .i64 (lsV (tkI l) A E 0), .int .i64 (lsV (tkI l) A E 1), .int .i64 (lsV (tkI l) A E 2)] ∧ Below w.heap.size w w' := by
  have HL := hid hl
  have hlen := hl.1
  have hnm := hl.2.1
  have AT := hid (fun k => lsS_at (pe := tkI l) (n := n) (E := E) (fun A E h0 h1 => by have := tkI_at l A E h0 (by omega); omega) h0 h1 k)
  clear hl
  go_enter Try.func52, Try.ntmps52
  go_upto_region 3 with fail
  rw [make_3]
  go_upto_region 3 with fail
  have B0 := hid ((((Below.refl w.heap.size w).alloc (Nat.le_refl _) (.cells #[.slice a n c, .int .i64 A, .int .i64 E] 102)).alloc (by simp) (.cells #[.slice none 0 0, .int .i64 0, .int .i64 0] 102)).alloc (by simp; omega) (.cells #[.int .i64 0, .int .i64 0, .int .i64 0] 2))
  have X0 := hid (((Blk.alloc w #[.slice a n c, .int .i64 A, .int .i64 E] (102)).below ((Below.refl _ _).alloc (Nat.le_refl _) (.cells #[.slice none 0 0, .int .i64 0, .int .i64 0] 102))).below ((Below.refl _ _).alloc (Nat.le_refl _) (.cells #[.int .i64 0, .int .i64 0, .int .i64 0] 2)))
  have Y0 := hid ((Blk.alloc (w.alloc (.cells #[.slice a n c, .int .i64 A, .int .i64 E] 102)) #[.slice none 0 0, .int .i64 0, .int .i64 0] (102)).below ((Below.refl _ _).alloc (Nat.le_refl _) (.cells #[.int .i64 0, .int .i64 0, .int .i64 0] 2)))
  have G0 := hid (Blk.alloc ((w.alloc (.cells #[.slice a n c, .int .i64 A, .int .i64 E] 102)).alloc (.cells #[.slice none 0 0, .int .i64 0, .int .i64 0] 102)) #[.int .i64 0, .int .i64 0, .int .i64 0] (2))
  generalize (((w.alloc (.cells #[.slice a n c, .int .i64 A, .int .i64 E] 102)).alloc (.cells #[.slice none 0 0, .int .i64 0, .int .i64 0] 102)).alloc (.cells #[.int .i64 0, .int .i64 0, .int .i64 0] 2)) = W0 at *
  rw [World.size_alloc, World.size_alloc] at G0
  rw [World.size_alloc] at Y0
  go_loopw [11] (fun i wr => ∃ k : Nat, k ≤ 3 ∧ i = .int .i64 (k : Int) ∧ Hid (Blk wr w.heap.size 102 #[.slice a n c, .int .i64 (lsS (tkI l) A E k).1, .int .i64 (lsS (tkI l) A E k).2]) ∧ Hid (Blk wr (w.heap.size + 1) 102 #[.slice none 0 0, .int .i64 0, .int .i64 0]) ∧ Hid (Blk wr (w.heap.size + 1 + 1) 2 ((List.range 3).map (nuV l A E k)).toArray) ∧ Hid (Below w.heap.size w wr)) (fun i _ => 3 - (intOf i).toNat)
  case atStart => exact ⟨0, by omega, rfl, X0, Y0, G0, B0⟩
  case round =>
    clear X0 Y0 G0 B0
    obtain ⟨k, hk', rfl, hX, hY, hG, hB⟩ := hrel
    have LD := hX.out.loadAt Try.underlying102 rfl sizeRead
    by_cases hlt : k < 3
    · have ka : (0 : Int) ≤ (k : Int) := by omega
      have kb : (k : Int) < (3 : Int) := by omega
      have C1 := hid (dnum_any a n c l (lsS (tkI l) A E k).1 (lsS (tkI l) A E k).2 wr (HL.out.below hB.out) ⟨by have := AT.out k; omega, by have := AT.out k; omega⟩)
      have EV : Hid (lsV (tkI l) A E k = (tkI l (lsS (tkI l) A E k).1 (lsS (tkI l) A E k).2).1) := rfl
      have ES : Hid (lsS (tkI l) A E (k + 1) = (tkI l (lsS (tkI l) A E k).1 (lsS (tkI l) A E k).2).2) := rfl
      have NS := hid (nuV_set l A E k 3 hlt)
      have NA := hid (nuV_at l A E k 3 k hlt)
      generalize ((List.range 3).map (nuV l A E k)).toArray = CG at *
      generalize nuV l A E k k = nv at *
      generalize tkI l (lsS (tkI l) A E k).1 (lsS (tkI l) A E k).2 = Z at *
      obtain ⟨z, A1, E1⟩ := Z
      simp only at C1 EV ES
      rw [EV.out] at NS
      generalize (lsS (tkI l) A E k).1 = A0 at *
      generalize (lsS (tkI l) A E k).2 = E0 at *
      go_wp2_with (refine wpList_load_at 102 rfl (.tmp 2) rfl _ _ rfl _ LD ?_)
      with_reducible refine C1.out.mono ?_
      rintro e w2 ⟨rfl, b2⟩
      have X2 := hid (hX.out.below b2)
      have Y2 := hid (hY.out.below b2)
      have G2 := hid (hG.out.below b2)
      have B2 := hid (hB.out.trans (b2.mono hB.out.size))
      have GX := hid (G2.out.other (ds := #[.slice a n c, .int .i64 A1, .int .i64 E1]) (show w.heap.size + 1 + 1 ≠ w.heap.size by omega))
      have cG := GX.out.cellAt k _ NA.out
      have fG : (w2.setRow w.heap.size #[.slice a n c, .int .i64 A1, .int .i64 E1]).frozen? ⟨w.heap.size + 1 + 1, k, none⟩ = false := GX.out.froz
      have BH := X2.out
      unfold Blk at BH
      clear C1 LD hX hY hG hB b2 G2
      go_wp2_with (refine wpList_store_row rfl 102 (.tmp 2) (.tmp 19) rfl w.heap.size #[.slice a n c, .int .i64 A1, .int .i64 E1] rfl rfl 102 _ BH sizeRead rfl (by simp [Value.oneCell']) ?_)
      refine ⟨⟨k + 1, by omega, by go_num, ?_, ?_, ?_, ?_⟩, ?_⟩
      · rw [ES.out]; exact (X2.out.row _).cellO _ _ (by show w.heap.size ≠ w.heap.size + 1 + 1; omega)
      · exact (Y2.out.other (by omega)).cellO _ _ (by show w.heap.size + 1 ≠ w.heap.size + 1 + 1; omega)
      · rw [← NS.out]; exact GX.out.put _
      · exact (setRow_below B2.out (Nat.le_refl _)).setCell (by show w.heap.size ≤ w.heap.size + 1 + 1; omega) _
      · simp [intOf]; omega
    · obtain rfl : k = 3 := by omega
      have kb : ¬ (((3 : Nat) : Int) < (3 : Int)) := by omega
      have BH := hY.out
      unfold Blk at BH
      go_wp2_with (first | refine wpList_load_at 102 rfl (.tmp 2) rfl _ _ rfl _ LD ?_ | refine wpList_store_row rfl 102 (.tmp 4) (.tmp 23) rfl (w.heap.size + 1) #[.slice a n c, .int .i64 (lsS (tkI l) A E 3).1, .int .i64 (lsS (tkI l) A E 3).2] rfl rfl 102 _ BH sizeRead rfl (by simp [Value.oneCell']) ?_)
      refine bodyPost_ret (results_cell2 rfl rfl ((hY.out.row _).loadVar Try.underlying102 rfl sizeRead)) rfl ?_
      exact ⟨w.heap.size + 1 + 1, rfl, by omega, hG.out.other (by omega), setRow_below hB.out (by omega)⟩

set_option maxRecDepth 100000 in
theorem make_4 (w : World) : (Instr.makeSlice 75 (.int .i64 4) (.int .i64 4)).run Try.prog w = .ok (.slice (some ⟨w.heap.size, 0, none⟩) 4 4) (w.alloc (.cells #[.int .i64 0, .int .i64 0, .int .i64 0, .int .i64 0] 2)) := by kernel_rfl
set_option maxRecDepth 100000 in
set_option maxHeartbeats 4000000 in
theorem dnums4_any (a : Option Addr) (n c : Nat) (l : List Int) (A E : Int) (w : World) (hl : HoldsB w a n c l) (h0 : 0 ≤ A) (h1 : A ≤ n) :
    Calls Try.prog 52 #[.agg #[.slice a n c, .int .i64 A, .int .i64 E], .int .i64 4] w fun e w' => ∃ g, e = .returned (.tuple #[.agg #[.slice a n c, .int .i64 (lsS (tkI l) A E 4).1, .int .i64 (lsS (tkI l) A E 4).2], .slice (some ⟨g, 0, none⟩) 4 4]) ∧ w.heap.size ≤ g ∧ Blk w' g 2 #[.int .i64 (lsV (tkI l) A E 0), .int .i64 (lsV (tkI l) A E 1), .int .i64 (lsV (tkI l) A E 2), .int .i64 (lsV (tkI l) A E 3)] ∧ Below w.heap.size w w' := by
  have HL := hid hl
  have hlen := hl.1
  have hnm := hl.2.1
  have AT := hid (fun k => lsS_at (pe := tkI l) (n := n) (E := E) (fun A E h0 h1 => by have := tkI_at l A E h0 (by omega); omega) h0 h1 k)
  clear hl
  go_enter Try.func52, Try.ntmps52
  go_upto_region 3 with fail
  rw [make_4]
  go_upto_region 3 with fail
  have B0 := hid ((((Below.refl w.heap.size w).alloc (Nat.le_refl _) (.cells #[.slice a n c, .int .i64 A, .int .i64 E] 102)).alloc (by simp) (.cells #[.slice none 0 0, .int .i64 0, .int .i64 0] 102)).alloc (by simp; omega) (.cells #[.int .i64 0, .int .i64 0, .int .i64 0, .int .i64 0] 2))
  have X0 := hid (((Blk.alloc w #[.slice a n c, .int .i64 A, .int .i64 E] (102)).below ((Below.refl _ _).alloc (Nat.le_refl _) (.cells #[.slice none 0 0, .int .i64 0, .int .i64 0] 102))).below ((Below.refl _ _).alloc (Nat.le_refl _) (.cells #[.int .i64 0, .int .i64 0, .int .i64 0, .int .i64 0] 2)))
  have Y0 := hid ((Blk.alloc (w.alloc (.cells #[.slice a n c, .int .i64 A, .int .i64 E] 102)) #[.slice none 0 0, .int .i64 0, .int .i64 0] (102)).below ((Below.refl _ _).alloc (Nat.le_refl _) (.cells #[.int .i64 0, .int .i64 0, .int .i64 0, .int .i64 0] 2)))
  have G0 := hid (Blk.alloc ((w.alloc (.cells #[.slice a n c, .int .i64 A, .int .i64 E] 102)).alloc (.cells #[.slice none 0 0, .int .i64 0, .int .i64 0] 102)) #[.int .i64 0, .int .i64 0, .int .i64 0, .int .i64 0] (2))
  generalize (((w.alloc (.cells #[.slice a n c, .int .i64 A, .int .i64 E] 102)).alloc (.cells #[.slice none 0 0, .int .i64 0, .int .i64 0] 102)).alloc (.cells #[.int .i64 0, .int .i64 0, .int .i64 0, .int .i64 0] 2)) = W0 at *
  rw [World.size_alloc, World.size_alloc] at G0
  rw [World.size_alloc] at Y0
  go_loopw [11] (fun i wr => ∃ k : Nat, k ≤ 4 ∧ i = .int .i64 (k : Int) ∧ Hid (Blk wr w.heap.size 102 #[.slice a n c, .int .i64 (lsS (tkI l) A E k).1, .int .i64 (lsS (tkI l) A E k).2]) ∧ Hid (Blk wr (w.heap.size + 1) 102 #[.slice none 0 0, .int .i64 0, .int .i64 0]) ∧ Hid (Blk wr (w.heap.size + 1 + 1) 2 ((List.range 4).map (nuV l A E k)).toArray) ∧ Hid (Below w.heap.size w wr)) (fun i _ => 4 - (intOf i).toNat)
  case atStart => exact ⟨0, by omega, rfl, X0, Y0, G0, B0⟩
  case round =>
    clear X0 Y0 G0 B0
    obtain ⟨k, hk', rfl, hX, hY, hG, hB⟩ := hrel
    have LD := hX.out.loadAt Try.underlying102 rfl sizeRead
    by_cases hlt : k < 4
    · have ka : (0 : Int) ≤ (k : Int) := by omega
      have kb : (k : Int) < (4 : Int) := by omega
      have C1 := hid (dnum_any a n c l (lsS (tkI l) A E k).1 (lsS (tkI l) A E k).2 wr (HL.out.below hB.out) ⟨by have := AT.out k; omega, by have := AT.out k; omega⟩)
      have EV : Hid (lsV (tkI l) A E k = (tkI l (lsS (tkI l) A E k).1 (lsS (tkI l) A E k).2).1) := rfl
      have ES : Hid (lsS (tkI l) A E (k + 1) = (tkI l (lsS (tkI l) A E k).1 (lsS (tkI l) A E k).2).2) := rfl
      have NS := hid (nuV_set l A E k 4 hlt)
      have NA := hid (nuV_at l A E k 4 k hlt)
      generalize ((List.range 4).map (nuV l A E k)).toArray = CG at *
      generalize nuV l A E k k = nv at *
      generalize tkI l (lsS (tkI l) A E k).1 (lsS (tkI l) A E k).2 = Z at *
      obtain ⟨z, A1, E1⟩ := Z
      simp only at C1 EV ES
      rw [EV.out] at NS
      generalize (lsS (tkI l) A E k).1 = A0 at *
      generalize (lsS (tkI l) A E k).2 = E0 at *
      go_wp2_with (refine wpList_load_at 102 rfl (.tmp 2) rfl _ _ rfl _ LD ?_)
      with_reducible refine C1.out.mono ?_
      rintro e w2 ⟨rfl, b2⟩
      have X2 := hid (hX.out.below b2)
      have Y2 := hid (hY.out.below b2)
      have G2 := hid (hG.out.below b2)
      have B2 := hid (hB.out.trans (b2.mono hB.out.size))
      have GX := hid (G2.out.other (ds := #[.slice a n c, .int .i64 A1, .int .i64 E1]) (show w.heap.size + 1 + 1 ≠ w.heap.size by omega))
      have cG := GX.out.cellAt k _ NA.out
      have fG : (w2.setRow w.heap.size #[.slice a n c, .int .i64 A1, .int .i64 E1]).frozen? ⟨w.heap.size + 1 + 1, k, none⟩ = false := GX.out.froz
      have BH := X2.out
      unfold Blk at BH
      clear C1 LD hX hY hG hB b2 G2
      go_wp2_with (refine wpList_store_row rfl 102 (.tmp 2) (.tmp 19) rfl w.heap.size #[.slice a n c, .int .i64 A1, .int .i64 E1] rfl rfl 102 _ BH sizeRead rfl (by simp [Value.oneCell']) ?_)
      refine ⟨⟨k + 1, by omega, by go_num, ?_, ?_, ?_, ?_⟩, ?_⟩
      · rw [ES.out]; exact (X2.out.row _).cellO _ _ (by show w.heap.size ≠ w.heap.size + 1 + 1; omega)
      · exact (Y2.out.other (by omega)).cellO _ _ (by show w.heap.size + 1 ≠ w.heap.size + 1 + 1; omega)
      · rw [← NS.out]; exact GX.out.put _
      · exact (setRow_below B2.out (Nat.le_refl _)).setCell (by show w.heap.size ≤ w.heap.size + 1 + 1; omega) _
      · simp [intOf]; omega
    · obtain rfl : k = 4 := by omega
      have kb : ¬ (((4 : Nat) : Int) < (4 : Int)) := by omega
      have BH := hY.out
      unfold Blk at BH
      go_wp2_with (first | refine wpList_load_at 102 rfl (.tmp 2) rfl _ _ rfl _ LD ?_ | refine wpList_store_row rfl 102 (.tmp 4) (.tmp 23) rfl (w.heap.size + 1) #[.slice a n c, .int .i64 (lsS (tkI l) A E 4).1, .int .i64 (lsS (tkI l) A E 4).2] rfl rfl 102 _ BH sizeRead rfl (by simp [Value.oneCell']) ?_)
      refine bodyPost_ret (results_cell2 rfl rfl ((hY.out.row _).loadVar Try.underlying102 rfl sizeRead)) rfl ?_
      exact ⟨w.heap.size + 1 + 1, rfl, by omega, hG.out.other (by omega), setRow_below hB.out (by omega)⟩

set_option maxRecDepth 100000 in
theorem make_5 (w : World) : (Instr.makeSlice 75 (.int .i64 5) (.int .i64 5)).run Try.prog w = .ok (.slice (some ⟨w.heap.size, 0, none⟩) 5 5) (w.alloc (.cells #[.int .i64 0, .int .i64 0, .int .i64 0, .int .i64 0, .int .i64 0] 2)) := by kernel_rfl
set_option maxRecDepth 100000 in
set_option maxHeartbeats 4000000 in
theorem dnums5_any (a : Option Addr) (n c : Nat) (l : List Int) (A E : Int) (w : World) (hl : HoldsB w a n c l) (h0 : 0 ≤ A) (h1 : A ≤ n) :
    Calls Try.prog 52 #[.agg #[.slice a n c, .int .i64 A, .int .i64 E], .int .i64 5] w fun e w' => ∃ g, e = .returned (.tuple #[.agg #[.slice a n c, .int .i64 (lsS (tkI l) A E 5).1, .int .i64 (lsS (tkI l) A E 5).2], .slice (some ⟨g, 0, none⟩) 5 5]) ∧ w.heap.size ≤ g ∧ Blk w' g 2 #[.int .i64 (lsV (tkI l) A E 0), .int .i64 (lsV (tkI l) A E 1), .int .i64 (lsV (tkI l) A E 2), .int .i64 (lsV (tkI l) A E 3), .int .i64 (lsV (tkI l) A E 4)] ∧ Below w.heap.size w w' := by
  have HL := hid hl
  have hlen := hl.1
  have hnm := hl.2.1
  have AT := hid (fun k => lsS_at (pe := tkI l) (n := n) (E := E) (fun A E h0 h1 => by have := tkI_at l A E h0 (by omega); omega) h0 h1 k)
  clear hl
  go_enter Try.func52, Try.ntmps52
  go_upto_region 3 with fail
  rw [make_5]
  go_upto_region 3 with fail
  have B0 := hid ((((Below.refl w.heap.size w).alloc (Nat.le_refl _) (.cells #[.slice a n c, .int .i64 A, .int .i64 E] 102)).alloc (by simp) (.cells #[.slice none 0 0, .int .i64 0, .int .i64 0] 102)).alloc (by simp; omega) (.cells #[.int .i64 0, .int .i64 0, .int .i64 0, .int .i64 0, .int .i64 0] 2))
  have X0 := hid (((Blk.alloc w #[.slice a n c, .int .i64 A, .int .i64 E] (102)).below ((Below.refl _ _).alloc (Nat.le_refl _) (.cells #[.slice none 0 0, .int .i64 0, .int .i64 0] 102))).below ((Below.refl _ _).alloc (Nat.le_refl _) (.cells #[.int .i64 0, .int .i64 0, .int .i64 0, .int .i64 0, .int .i64 0] 2)))
  have Y0 := hid ((Blk.alloc (w.alloc (.cells #[.slice a n c, .int .i64 A, .int .i64 E] 102)) #[.slice none 0 0, .int .i64 0, .int .i64 0] (102)).below ((Below.refl _ _).alloc (Nat.le_refl _) (.cells #[.int .i64 0, .int .i64 0, .int .i64 0, .int .i64 0, .int .i64 0] 2)))
  have G0 := hid (Blk.alloc ((w.alloc (.cells #[.slice a n c, .int .i64 A, .int .i64 E] 102)).alloc (.cells #[.slice none 0 0, .int .i64 0, .int .i64 0] 102)) #[.int .i64 0, .int .i64 0, .int .i64 0, .int .i64 0, .int .i64 0] (2))
  generalize (((w.alloc (.cells #[.slice a n c, .int .i64 A, .int .i64 E] 102)).alloc (.cells #[.slice none 0 0, .int .i64 0, .int .i64 0] 102)).alloc (.cells #[.int .i64 0, .int .i64 0, .int .i64 0, .int .i64 0, .int .i64 0] 2)) = W0 at *
  rw [World.size_alloc, World.size_alloc] at G0
  rw [World.size_alloc] at Y0
  go_loopw [11] (fun i wr => ∃ k : Nat, k ≤ 5 ∧ i = .int .i64 (k : Int) ∧ Hid (Blk wr w.heap.size 102 #[.slice a n c, .int .i64 (lsS (tkI l) A E k).1, .int .i64 (lsS (tkI l) A E k).2]) ∧ Hid (Blk wr (w.heap.size + 1) 102 #[.slice none 0 0, .int .i64 0, .int .i64 0]) ∧ Hid (Blk wr (w.heap.size + 1 + 1) 2 ((List.range 5).map (nuV l A E k)).toArray) ∧ Hid (Below w.heap.size w wr)) (fun i _ => 5 - (intOf i).toNat)
  case atStart => exact ⟨0, by omega, rfl, X0, Y0, G0, B0⟩
  case round =>
    clear X0 Y0 G0 B0
    obtain ⟨k, hk', rfl, hX, hY, hG, hB⟩ := hrel
    have LD := hX.out.loadAt Try.underlying102 rfl sizeRead
    by_cases hlt : k < 5
    · have ka : (0 : Int) ≤ (k : Int) := by omega
      have kb : (k : Int) < (5 : Int) := by omega
      have C1 := hid (dnum_any a n c l (lsS (tkI l) A E k).1 (lsS (tkI l) A E k).2 wr (HL.out.below hB.out) ⟨by have := AT.out k; omega, by have := AT.out k; omega⟩)
      have EV : Hid (lsV (tkI l) A E k = (tkI l (lsS (tkI l) A E k).1 (lsS (tkI l) A E k).2).1) := rfl
      have ES : Hid (lsS (tkI l) A E (k + 1) = (tkI l (lsS (tkI l) A E k).1 (lsS (tkI l) A E k).2).2) := rfl
      have NS := hid (nuV_set l A E k 5 hlt)
      have NA := hid (nuV_at l A E k 5 k hlt)
      generalize ((List.range 5).map (nuV l A E k)).toArray = CG at *
      generalize nuV l A E k k = nv at *
      generalize tkI l (lsS (tkI l) A E k).1 (lsS (tkI l) A E k).2 = Z at *
      obtain ⟨z, A1, E1⟩ := Z
      simp only at C1 EV ES
      rw [EV.out] at NS
      generalize (lsS (tkI l) A E k).1 = A0 at *
      generalize (lsS (tkI l) A E k).2 = E0 at *
      go_wp2_with (refine wpList_load_at 102 rfl (.tmp 2) rfl _ _ rfl _ LD ?_)
      with_reducible refine C1.out.mono ?_
      rintro e w2 ⟨rfl, b2⟩
      have X2 := hid (hX.out.below b2)
      have Y2 := hid (hY.out.below b2)
      have G2 := hid (hG.out.below b2)
      have B2 := hid (hB.out.trans (b2.mono hB.out.size))
      have GX := hid (G2.out.other (ds := #[.slice a n c, .int .i64 A1, .int .i64 E1]) (show w.heap.size + 1 + 1 ≠ w.heap.size by omega))
      have cG := GX.out.cellAt k _ NA.out
      have fG : (w2.setRow w.heap.size #[.slice a n c, .int .i64 A1, .int .i64 E1]).frozen? ⟨w.heap.size + 1 + 1, k, none⟩ = false := GX.out.froz
      have BH := X2.out
      unfold Blk at BH
      clear C1 LD hX hY hG hB b2 G2
      go_wp2_with (refine wpList_store_row rfl 102 (.tmp 2) (.tmp 19) rfl w.heap.size #[.slice a n c, .int .i64 A1, .int .i64 E1] rfl rfl 102 _ BH sizeRead rfl (by simp [Value.oneCell']) ?_)
      refine ⟨⟨k + 1, by omega, by go_num, ?_, ?_, ?_, ?_⟩, ?_⟩
      · rw [ES.out]; exact (X2.out.row _).cellO _ _ (by show w.heap.size ≠ w.heap.size + 1 + 1; omega)
      · exact (Y2.out.other (by omega)).cellO _ _ (by show w.heap.size + 1 ≠ w.heap.size + 1 + 1; omega)
      · rw [← NS.out]; exact GX.out.put _
      · exact (setRow_below B2.out (Nat.le_refl _)).setCell (by show w.heap.size ≤ w.heap.size + 1 + 1; omega) _
      · simp [intOf]; omega
    · obtain rfl : k = 5 := by omega
      have kb : ¬ (((5 : Nat) : Int) < (5 : Int)) := by omega
      have BH := hY.out
      unfold Blk at BH
      go_wp2_with (first | refine wpList_load_at 102 rfl (.tmp 2) rfl _ _ rfl _ LD ?_ | refine wpList_store_row rfl 102 (.tmp 4) (.tmp 23) rfl (w.heap.size + 1) #[.slice a n c, .int .i64 (lsS (tkI l) A E 5).1, .int .i64 (lsS (tkI l) A E 5).2] rfl rfl 102 _ BH sizeRead rfl (by simp [Value.oneCell']) ?_)
      refine bodyPost_ret (results_cell2 rfl rfl ((hY.out.row _).loadVar Try.underlying102 rfl sizeRead)) rfl ?_
      exact ⟨w.heap.size + 1 + 1, rfl, by omega, hG.out.other (by omega), setRow_below hB.out (by omega)⟩

set_option maxRecDepth 100000 in
theorem make_7 (w : World) : (Instr.makeSlice 75 (.int .i64 7) (.int .i64 7)).run Try.prog w = .ok (.slice (some ⟨w.heap.size, 0, none⟩) 7 7) (w.alloc (.cells #[.int .i64 0, .int .i64 0, .int .i64 0, .int .i64 0, .int .i64 0, .int .i64 0, .int .i64 0] 2)) := by kernel_rfl
set_option maxRecDepth 100000 in
set_option maxHeartbeats 4000000 in
theorem dnums7_any (a : Option Addr) (n c : Nat) (l : List Int) (A E : Int) (w : World) (hl : HoldsB w a n c l) (h0 : 0 ≤ A) (h1 : A ≤ n) :
    Calls Try.prog 52 #[.agg #[.slice a n c, .int .i64 A, .int .i64 E], .int .i64 7] w fun e w' => ∃ g, e = .returned (.tuple #[.agg #[.slice a n c, .int .i64 (lsS (tkI l) A E 7).1, .int .i64 (lsS (tkI l) A E 7).2], .slice (some ⟨g, 0, none⟩) 7 7]) ∧ w.heap.size ≤ g ∧ Blk w' g 2 #[.int .i64 (lsV (tkI l) A E 0), .int .i64 (lsV (tkI l) A E 1), .int .i64 (lsV (tkI l) A E 2), .int .i64 (lsV (tkI l) A E 3), .int .i64 (lsV (tkI l) A E 4), .int .i64 (lsV (tkI l) A E 5), .int .i64 (lsV (tkI l) A E 6)] ∧ Below w.heap.size w w' := by
  have HL := hid hl
  have hlen := hl.1
  have hnm := hl.2.1
  have AT := hid (fun k => lsS_at (pe := tkI l) (n := n) (E := E) (fun A E h0 h1 => by have := tkI_at l A E h0 (by omega); omega) h0 h1 k)
  clear hl
  go_enter Try.func52, Try.ntmps52
  go_upto_region 3 with fail
  rw [make_7]
  go_upto_region 3 with fail
  have B0 := hid ((((Below.refl w.heap.size w).alloc (Nat.le_refl _) (.cells #[.slice a n c, .int .i64 A, .int .i64 E] 102)).alloc (by simp) (.cells #[.slice none 0 0, .int .i64 0, .int .i64 0] 102)).alloc (by simp; omega) (.cells #[.int .i64 0, .int .i64 0, .int .i64 0, .int .i64 0, .int .i64 0, .int .i64 0, .int .i64 0] 2))
  have X0 := hid (((Blk.alloc w #[.slice a n c, .int .i64 A, .int .i64 E] (102)).below ((Below.refl _ _).alloc (Nat.le_refl _) (.cells #[.slice none 0 0, .int .i64 0, .int .i64 0] 102))).below ((Below.refl _ _).alloc (Nat.le_refl _) (.cells #[.int .i64 0, .int .i64 0, .int .i64 0, .int .i64 0, .int .i64 0, .int .i64 0, .int .i64 0] 2)))
  have Y0 := hid ((Blk.alloc (w.alloc (.cells #[.slice a n c, .int .i64 A, .int .i64 E] 102)) #[.slice none 0 0, .int .i64 0, .int .i64 0] (102)).below ((Below.refl _ _).alloc (Nat.le_refl _) (.cells #[.int .i64 0, .int .i64 0, .int .i64 0, .int .i64 0, .int .i64 0, .int .i64 0, .int .i64 0] 2)))
  have G0 := hid (Blk.alloc ((w.alloc (.cells #[.slice a n c, .int .i64 A, .int .i64 E] 102)).alloc (.cells #[.slice none 0 0, .int .i64 0, .int .i64 0] 102)) #[.int .i64 0, .int .i64 0, .int .i64 0, .int .i64 0, .int .i64 0, .int .i64 0, .int .i64 0] (2))
  generalize (((w.alloc (.cells #[.slice a n c, .int .i64 A, .int .i64 E] 102)).alloc (.cells #[.slice none 0 0, .int .i64 0, .int .i64 0] 102)).alloc (.cells #[.int .i64 0, .int .i64 0, .int .i64 0, .int .i64 0, .int .i64 0, .int .i64 0, .int .i64 0] 2)) = W0 at *
  rw [World.size_alloc, World.size_alloc] at G0
  rw [World.size_alloc] at Y0
  go_loopw [11] (fun i wr => ∃ k : Nat, k ≤ 7 ∧ i = .int .i64 (k : Int) ∧ Hid (Blk wr w.heap.size 102 #[.slice a n c, .int .i64 (lsS (tkI l) A E k).1, .int .i64 (lsS (tkI l) A E k).2]) ∧ Hid (Blk wr (w.heap.size + 1) 102 #[.slice none 0 0, .int .i64 0, .int .i64 0]) ∧ Hid (Blk wr (w.heap.size + 1 + 1) 2 ((List.range 7).map (nuV l A E k)).toArray) ∧ Hid (Below w.heap.size w wr)) (fun i _ => 7 - (intOf i).toNat)
  case atStart => exact ⟨0, by omega, rfl, X0, Y0, G0, B0⟩
  case round =>
    clear X0 Y0 G0 B0
    obtain ⟨k, hk', rfl, hX, hY, hG, hB⟩ := hrel
    have LD := hX.out.loadAt Try.underlying102 rfl sizeRead
    by_cases hlt : k < 7
    · have ka : (0 : Int) ≤ (k : Int) := by omega
      have kb : (k : Int) < (7 : Int) := by omega
      have C1 := hid (dnum_any a n c l (lsS (tkI l) A E k).1 (lsS (tkI l) A E k).2 wr (HL.out.below hB.out) ⟨by have := AT.out k; omega, by have := AT.out k; omega⟩)
      have EV : Hid (lsV (tkI l) A E k = (tkI l (lsS (tkI l) A E k).1 (lsS (tkI l) A E k).2).1) := rfl
      have ES : Hid (lsS (tkI l) A E (k + 1) = (tkI l (lsS (tkI l) A E k).1 (lsS (tkI l) A E k).2).2) := rfl
      have NS := hid (nuV_set l A E k 7 hlt)
      have NA := hid (nuV_at l A E k 7 k hlt)
      generalize ((List.range 7).map (nuV l A E k)).toArray = CG at *
      generalize nuV l A E k k = nv at *
      generalize tkI l (lsS (tkI l) A E k).1 (lsS (tkI l) A E k).2 = Z at *
      obtain ⟨z, A1, E1⟩ := Z
      simp only at C1 EV ES
      rw [EV.out] at NS
      generalize (lsS (tkI l) A E k).1 = A0 at *
      generalize (lsS (tkI l) A E k).2 = E0 at *
      go_wp2_with (refine wpList_load_at 102 rfl (.tmp 2) rfl _ _ rfl _ LD ?_)
      with_reducible refine C1.out.mono ?_
      rintro e w2 ⟨rfl, b2⟩
      have X2 := hid (hX.out.below b2)
      have Y2 := hid (hY.out.below b2)
      have G2 := hid (hG.out.below b2)
      have B2 := hid (hB.out.trans (b2.mono hB.out.size))
      have GX := hid (G2.out.other (ds := #[.slice a n c, .int .i64 A1, .int .i64 E1]) (show w.heap.size + 1 + 1 ≠ w.heap.size by omega))
      have cG := GX.out.cellAt k _ NA.out
      have fG : (w2.setRow w.heap.size #[.slice a n c, .int .i64 A1, .int .i64 E1]).frozen? ⟨w.heap.size + 1 + 1, k, none⟩ = false := GX.out.froz
      have BH := X2.out
      unfold Blk at BH
      clear C1 LD hX hY hG hB b2 G2
      go_wp2_with (refine wpList_store_row rfl 102 (.tmp 2) (.tmp 19) rfl w.heap.size #[.slice a n c, .int .i64 A1, .int .i64 E1] rfl rfl 102 _ BH sizeRead rfl (by simp [Value.oneCell']) ?_)
      refine ⟨⟨k + 1, by omega, by go_num, ?_, ?_, ?_, ?_⟩, ?_⟩
      · rw [ES.out]; exact (X2.out.row _).cellO _ _ (by show w.heap.size ≠ w.heap.size + 1 + 1; omega)
      · exact (Y2.out.other (by omega)).cellO _ _ (by show w.heap.size + 1 ≠ w.heap.size + 1 + 1; omega)
      · rw [← NS.out]; exact GX.out.put _
      · exact (setRow_below B2.out (Nat.le_refl _)).setCell (by show w.heap.size ≤ w.heap.size + 1 + 1; omega) _
      · simp [intOf]; omega
    · obtain rfl : k = 7 := by omega
      have kb : ¬ (((7 : Nat) : Int) < (7 : Int)) := by omega
      have BH := hY.out
      unfold Blk at BH
      go_wp2_with (first | refine wpList_load_at 102 rfl (.tmp 2) rfl _ _ rfl _ LD ?_ | refine wpList_store_row rfl 102 (.tmp 4) (.tmp 23) rfl (w.heap.size + 1) #[.slice a n c, .int .i64 (lsS (tkI l) A E 7).1, .int .i64 (lsS (tkI l) A E 7).2] rfl rfl 102 _ BH sizeRead rfl (by simp [Value.oneCell']) ?_)
      refine bodyPost_ret (results_cell2 rfl rfl ((hY.out.row _).loadVar Try.underlying102 rfl sizeRead)) rfl ?_
      exact ⟨w.heap.size + 1 + 1, rfl, by omega, hG.out.other (by omega), setRow_below hB.out (by omega)⟩
end Go.Proofs.Ythkbddnkcljjpaa

namespace Go.Proofs.Ythkbddnkcljjpaa
open Go.RowKit Go.Deep Go.Maps
set_option linter.unusedVariables false
set_option linter.unusedSimpArgs false
theorem Blk.low {W W' : World} {Q t base : Nat} {cs : Array Value} (h : Blk W Q t cs) (hb : Below base W W') (hq : Q < base) : Blk W' Q t cs := (hb.block Q hq).trans h
set_option maxRecDepth 100000 in
set_option maxHeartbeats 8000000 in
theorem dlist_any (a : Option Addr) (n c : Nat) (l : List Int) (A E : Int) (w : World) (hl : HoldsB w a n c l) (h0 : 0 ≤ A) (h1 : A ≤ n) :
    Calls Try.prog 60 #[.agg #[.slice a n c, .int .i64 A, .int .i64 E]] w fun e w' => ∃ v, e = .returned (.tuple #[.agg #[.slice a n c, .int .i64 (liF (tkI l) l A E).1, .int .i64 (liF (tkI l) l A E).2], v]) ∧ ((liF (tkI l) l A E).2 = 0 → OwnN w.heap.size w' v (liC (tkI l) l A E) (liL (tkI l) l A E)) ∧ ((liF (tkI l) l A E).2 ≠ 0 → v = .slice none 0 0) ∧ Below w.heap.size w w' := by
  have HL := hid hl
  have hlen := hl.1
  have hnm := hl.2.1
  have hbb := hl.2.2.2.2.1
  have CB := hid (upT_bd l A E 1024 3 hbb (by omega))
  have AT := hid (upT_at l A E 1024 3 h0 (by omega))
  have AS := hid (fun k => lsS_at (pe := tkI l) (n := n) (E := (upT l A E 1024 3).2.2) (fun A E h0 h1 => by have := tkI_at l A E h0 (by omega); omega) AT.out.1 (by have := AT.out.2; omega) k)
  have NN : Hid (liC (tkI l) l A E = lsN (tkI l) (upT l A E 1024 3).2.1 (upT l A E 1024 3).2.2 (upT l A E 1024 3).1.toNat 0) := rfl
  have FF : Hid (liF (tkI l) l A E = if liC (tkI l) l A E < (upT l A E 1024 3).1.toNat then lsS (tkI l) (upT l A E 1024 3).2.1 (upT l A E 1024 3).2.2 (liC (tkI l) l A E + 1) else lsS (tkI l) (upT l A E 1024 3).2.1 (upT l A E 1024 3).2.2 (liC (tkI l) l A E)) := rfl
  have PV : Hid (∀ k, liV (tkI l) l A E k = lsV (tkI l) (upT l A E 1024 3).2.1 (upT l A E 1024 3).2.2 k) := fun k => rfl
  have LT := hid (fun k => liT_succ (tkI l) l A E k)
  have LA : Hid (liT (tkI l) l A E (liC (tkI l) l A E) = liL (tkI l) l A E) := rfl
  have LZ : Hid (liT (tkI l) l A E 0 = []) := rfl
  have TOT := hid (fun W (H : HoldsB W a n c l) => dtotal_any a n c l A E W H ⟨by omega, by omega⟩)
  clear hl
  generalize hli : liC (tkI l) l A E = N at *
  generalize liF (tkI l) l A E = FN at *
  generalize hup : upT l A E 1024 3 = U at *
  obtain ⟨cc, A0, E0⟩ := U
  simp only at CB AT AS NN FF PV TOT
  obtain ⟨C, rfl⟩ : ∃ C : Nat, cc = (C : Int) := ⟨cc.toNat, by have := CB.out.1; omega⟩
  have hC : C ≤ 1024 := by have := CB.out.2; omega
  have NL := hid (lsN_le (tkI l) A0 E0 C 0)
  have NY := hid (lsN_yes (tkI l) A0 E0 C 0)
  have NO := hid (lsN_no (tkI l) A0 E0 C 0)
  have FE0 : Hid (C = 0 → FN = (A0, E0)) := fun h => by
    subst h
    rw [FF.out, if_neg (by simp), NN.out]; rfl
  simp only [Int.toNat_natCast] at NN FF
  rw [← NN.out] at NL NY NO
  have hNC : N ≤ C := by have := NL.out.2; omega
  clear NN CB AT hup hli NL
  go_enter Try.func60, Try.ntmps60
  go_upto_region 1 with fail
  have B0 := hid (((Below.refl w.heap.size w).alloc (Nat.le_refl _) (.cells #[.slice a n c, .int .i64 A, .int .i64 E] 102)).alloc (by simp) (.cells #[.slice none 0 0, .int .i64 0, .int .i64 0] 102))
  have X0 := hid ((Blk.alloc w #[.slice a n c, .int .i64 A, .int .i64 E] (102)).below ((Below.refl _ _).alloc (Nat.le_refl _) (.cells #[.slice none 0 0, .int .i64 0, .int .i64 0] 102)))
  have Y0 := hid (Blk.alloc (w.alloc (.cells #[.slice a n c, .int .i64 A, .int .i64 E] 102)) #[.slice none 0 0, .int .i64 0, .int .i64 0] (102))
  have s0 : Hid (w.heap.size + 2 ≤ ((w.alloc (.cells #[.slice a n c, .int .i64 A, .int .i64 E] 102)).alloc (.cells #[.slice none 0 0, .int .i64 0, .int .i64 0] 102)).heap.size) := by unfold Hid; simp
  generalize ((w.alloc (.cells #[.slice a n c, .int .i64 A, .int .i64 E] 102)).alloc (.cells #[.slice none 0 0, .int .i64 0, .int .i64 0] 102)) = W0 at *
  rw [World.size_alloc] at Y0
  have LD := X0.out.loadAt Try.underlying102 rfl sizeRead
  have C0 := hid (TOT.out W0 (HL.out.below B0.out))
  go_wp2_with (refine wpList_load_at 102 rfl (.tmp 1) rfl _ _ rfl _ LD ?_)
  with_reducible refine C0.out.mono ?_
  rintro e w1 ⟨rfl, b1⟩
  have X1 := hid (X0.out.below b1)
  have Y1 := hid ((Y0.out.below b1).other (ds := #[.slice a n c, .int .i64 A0, .int .i64 E0]) (show w.heap.size + 1 ≠ w.heap.size by omega))
  have BX := X1.out
  unfold Blk at BX
  have XR := hid (X1.out.row #[.slice a n c, .int .i64 A0, .int .i64 E0])
  have BR := hid (setRow_below (q := w.heap.size) (cs := #[.slice a n c, .int .i64 A0, .int .i64 E0]) (B0.out.trans (b1.mono B0.out.size)) (Nat.le_refl _))
  have s1 : Hid (w.heap.size + 2 ≤ (w1.setRow w.heap.size #[.slice a n c, .int .i64 A0, .int .i64 E0]).heap.size) := by unfold Hid; have := s0.out; have := b1.size; simp; omega
  clear C0 LD X0 Y0 B0 b1 s0 TOT X1
  go_upto_region 4 with (refine wpList_store_row rfl 102 (.tmp 1) (.tmp 10) rfl w.heap.size #[.slice a n c, .int .i64 A0, .int .i64 E0] rfl rfl 102 _ BX sizeRead rfl (by simp [Value.oneCell']) ?_)
  clear BX
  generalize w1.setRow w.heap.size #[.slice a n c, .int .i64 A0, .int .i64 E0] = W2 at *
  go_loopw [5, 13] (fun v i wr => ∃ k : Nat, k ≤ N ∧ i = .int .i64 (k : Int) ∧ Hid (OwnN (w.heap.size + 2) wr v k (liT (tkI l) l A E k)) ∧ Hid (Blk wr w.heap.size 102 #[.slice a n c, .int .i64 (lsS (tkI l) A0 E0 k).1, .int .i64 (lsS (tkI l) A0 E0 k).2]) ∧ Hid (Blk wr (w.heap.size + 1) 102 #[.slice none 0 0, .int .i64 0, .int .i64 0]) ∧ Hid (Below w.heap.size w wr) ∧ Hid (w.heap.size + 2 ≤ wr.heap.size) ∧ Hid (0 < k → (lsS (tkI l) A0 E0 k).2 = 0) ∧ Hid (k = 0 → v = .slice none 0 0)) (fun _ i _ => N + 1 - (intOf i).toNat)
  case atStart => exact ⟨0, by omega, rfl, by unfold Hid; rw [LZ.out]; exact OwnE.nil _ _ _ _ _, XR, Y1, BR, s1, fun h => absurd h (by omega), fun _ => rfl⟩
  case round =>
    clear XR Y1 BR s1
    obtain ⟨k, hk', rfl, hO, hX, hY, hB, hs, hz, hv⟩ := hrel
    have LD := hX.out.loadAt Try.underlying102 rfl sizeRead
    have ka : (0 : Int) ≤ (k : Int) := by omega
    by_cases hlt : k < C
    · have kb : (k : Int) < (C : Int) := by omega
      have C1 := hid (dnum_any a n c l (lsS (tkI l) A0 E0 k).1 (lsS (tkI l) A0 E0 k).2 wr (HL.out.below hB.out) ⟨by have := AS.out k; omega, by have := AS.out k; omega⟩)
      have EV : Hid (lsV (tkI l) A0 E0 k = (tkI l (lsS (tkI l) A0 E0 k).1 (lsS (tkI l) A0 E0 k).2).1) := rfl
      have ES : Hid (lsS (tkI l) A0 E0 (k + 1) = (tkI l (lsS (tkI l) A0 E0 k).1 (lsS (tkI l) A0 E0 k).2).2) := rfl
      generalize tkI l (lsS (tkI l) A0 E0 k).1 (lsS (tkI l) A0 E0 k).2 = Z at *
      obtain ⟨z, A1, E1⟩ := Z
      simp only at C1 EV ES
      generalize (lsS (tkI l) A0 E0 k).1 = Ak at *
      generalize (lsS (tkI l) A0 E0 k).2 = Ek at *
      go_wp2_with (refine wpList_load_at 102 rfl (.tmp 1) rfl _ _ rfl _ LD ?_)
      with_reducible refine C1.out.mono ?_
      rintro e w2 ⟨rfl, b2⟩
      have X2 := hid (hX.out.below b2)
      have X3 := hid (X2.out.row #[.slice a n c, .int .i64 A1, .int .i64 E1])
      have Y3 := hid ((hY.out.below b2).other (ds := #[.slice a n c, .int .i64 A1, .int .i64 E1]) (show w.heap.size + 1 ≠ w.heap.size by omega))
      have O3 := hid ((hO.out.below b2).row (q := w.heap.size) (by omega) #[.slice a n c, .int .i64 A1, .int .i64 E1])
      have B3 := hid (setRow_below (q := w.heap.size) (cs := #[.slice a n c, .int .i64 A1, .int .i64 E1]) (hB.out.trans (b2.mono hB.out.size)) (Nat.le_refl _))
      have s3 : Hid (w.heap.size + 2 ≤ (w2.setRow w.heap.size #[.slice a n c, .int .i64 A1, .int .i64 E1]).heap.size) := by unfold Hid; have := hs.out; have := b2.size; simp; omega
      have BX := X2.out
      unfold Blk at BX
      clear C1 LD hX hY hB b2 hO hs X2
      go_upto_region 7 with (refine wpList_store_row rfl 102 (.tmp 1) (.tmp 18) rfl w.heap.size #[.slice a n c, .int .i64 A1, .int .i64 E1] rfl rfl 102 _ BX sizeRead rfl (by simp [Value.oneCell']) ?_)
      clear BX
      generalize w2.setRow w.heap.size #[.slice a n c, .int .i64 A1, .int .i64 E1] = w3 at *
      have c2 := X3.out.cellAt 2 (.int .i64 E1) rfl
      have LD := X3.out.loadAt Try.underlying102 rfl sizeRead
      have BY := Y3.out
      unfold Blk at BY
      by_cases hE : E1 = 0
      · subst hE
        have hN : k < N := by
          apply Classical.byContradiction
          intro h
          have e : N = k := by omega
          have := NO.out (by omega)
          rw [e, ES.out] at this
          exact this rfl
        clear LD BY
        go_wp2_with (at_builtin; refine push_ownE 28 3 (.int .i64 0) 8 encN_len encN_one Try.underlying28 infoN rfl (by decide) w3 z rfl (.tmp 24) (.tmp 26) rfl (w.heap.size + 2) k u5 _ #[.int .i64 z] rfl rfl O3.out s3.out (by simp [Act.eval]) (by omega) (by omega) ?_)
        intro v4 w4 h4 b4 g4
        have O4 : Hid (OwnN (w.heap.size + 2) w4 v4 (k + 1) (liT (tkI l) l A E (k + 1))) := by unfold Hid; rw [LT.out, PV.out, EV.out]; exact h4
        have X4 := hid (X3.out.low b4 (by omega))
        have Y4 := hid (Y3.out.low b4 (by omega))
        have B4 := hid (B3.out.trans (b4.mono (by omega)))
        have s4 : Hid (w.heap.size + 2 ≤ w4.heap.size) := by unfold Hid; have := b4.size; have := s3.out; omega
        clear h4 b4 g4 O3 X3 Y3 B3 s3 c2
        go_wp2_with fail
        refine ⟨⟨k + 1, by omega, by go_num, O4, by unfold Hid; rw [ES.out]; exact X4.out, Y4, B4, s4, (fun _ => by rw [ES.out]), (fun h => absurd h (by omega))⟩, ?_⟩
        simp [intOf]; omega
      · have tE : (E1 != 0) = true := by simpa using hE
        have hN : N = k := by
          apply Classical.byContradiction
          intro h
          have := NY.out k (by omega) (by omega)
          rw [ES.out] at this
          exact hE this
        have F1 : Hid (FN = (A1, E1)) := by unfold Hid; rw [FF.out, if_pos (by omega), hN, ES.out]
        have HE := hid hE
        clear hE hN O3
        go_wp2_with (first | refine wpList_load_at 102 rfl (.tmp 1) rfl _ _ rfl _ LD ?_ | refine wpList_store_row rfl 102 (.tmp 2) (.tmp 23) rfl (w.heap.size + 1) #[.slice a n c, .int .i64 A1, .int .i64 E1] rfl rfl 102 _ BY sizeRead rfl (by simp [Value.oneCell']) ?_)
        refine bodyPost_ret (results_cell2 rfl rfl ((Y3.out.row _).loadVar Try.underlying102 rfl sizeRead)) rfl ?_
        rw [F1.out]
        exact ⟨_, rfl, (fun h => absurd h HE.out), fun _ => rfl, setRow_below B3.out (by omega)⟩
    · have kc : k = C := by omega
      have kn : N = k := by omega
      subst kn
      have kb : ¬ ((N : Int) < (C : Int)) := by omega
      have F1 : Hid (FN = lsS (tkI l) A0 E0 N) := by unfold Hid; rw [FF.out, if_neg (by omega)]
      have BY := hY.out
      unfold Blk at BY
      rw [LA.out] at hO
      generalize lsS (tkI l) A0 E0 N = SN at *
      subst kc
      go_wp2_with (first | refine wpList_load_at 102 rfl (.tmp 1) rfl _ _ rfl _ LD ?_ | refine wpList_store_row rfl 102 (.tmp 2) (.tmp 29) rfl (w.heap.size + 1) #[.slice a n c, .int .i64 SN.1, .int .i64 SN.2] rfl rfl 102 _ BY sizeRead rfl (by simp [Value.oneCell']) ?_)
      refine bodyPost_ret (results_cell2 rfl rfl ((hY.out.row _).loadVar Try.underlying102 rfl sizeRead)) rfl ?_
      rw [F1.out]
      refine ⟨_, rfl, fun _ => (hO.out.row (by omega) _).weaken (by omega), fun h => ?_, setRow_below hB.out (by omega)⟩
      by_cases h0 : N = 0
      · exact hv.out h0
      · exact absurd (hz.out (by omega)) h
end Go.Proofs.Ythkbddnkcljjpaa

namespace Go.Proofs.Ythkbddnkcljjpaa
open Go.RowKit Go.Deep Go.Maps
set_option linter.unusedVariables false
set_option linter.unusedSimpArgs false
theorem results_cells2 {fn : Func} {t t' : Tmp} {ty ty' : TypeId} (h : fn.results = #[.cell t ty, .cell t' ty']) {tmps : Array Value} {P : Program} {w : World} {a a' : Addr} {v v' : Value} (ht : tmps.getD t undef = .pointer (some a)) (ht' : tmps.getD t' undef = .pointer (some a')) (hl : (loadVar ty a).run P w = .ok v w) (hl' : (loadVar ty' a').run P w = .ok v' w) : (results fn tmps).run P w = .ok (.tuple #[v, v']) w := by
  rw [Array.getD_eq_getD_getElem?] at ht ht'
  simp [results, h, ht, ht', asAddr, hl, hl']
set_option maxRecDepth 100000 in
theorem yieldsIf_build {ops : Array Oper} {S : World → Prop} {op : Oper} {a : Act} (hw : Region.wanted op (yielded ops a.tmps) = true) (t : TypeId) (parts : Array (Nat × Operand)) (ho : op.op = .build t parts) (cs : Array Value) (hb : Try.prog.built t (parts.map fun (i, x) => (i, a.eval x)).toList = some cs) : YieldsIf Try.prog ops S op (.agg cs) a :=
  .inl ⟨hw, fun w hw' => by
    have hr := run_build (P := Try.prog) w t _ cs hb
    unfold execOp
    simp only [ho, Sem.run_bind, Sem.run_pure, hr, Result.andThen_ok]⟩

set_option maxRecDepth 100000 in
set_option maxHeartbeats 8000000 in
theorem danode_any (a : Option Addr) (n c : Nat) (l : List Int) (A E : Int) (w : World) (hl : HoldsB w a n c l) (h0 : 0 ≤ A) (h1 : A ≤ n) :
    Calls Try.prog 55 #[.agg #[.slice a n c, .int .i64 A, .int .i64 E]] w fun e w' => e = .returned (.tuple #[.agg #[.slice a n c, .int .i64 (rdN l A E).2.1, .int .i64 (rdN l A E).2.2], .agg (rdN l A E).1.cs.toArray]) ∧ Below w.heap.size w w' := by
  have HL := hid hl
  have EQ : Hid (rdN l A E = (⟨lsV (tkI l) A E 0, lsV (tkI l) A E 1, lsV (tkI l) A E 2, lsV (tkI l) A E 3, lsV (tkI l) A E 4⟩, lsS (tkI l) A E 5)) := by unfold Hid rdN; simp only [tkc_ls]
  have NU := hid (fun W (H : HoldsB W a n c l) => dnums5_any a n c l A E W H h0 h1)
  clear hl
  generalize hx0 : lsV (tkI l) A E 0 = x0 at *
  have X0 := hid hx0
  clear hx0
  generalize hx1 : lsV (tkI l) A E 1 = x1 at *
  have X1 := hid hx1
  clear hx1
  generalize hx2 : lsV (tkI l) A E 2 = x2 at *
  have X2 := hid hx2
  clear hx2
  generalize hx3 : lsV (tkI l) A E 3 = x3 at *
  have X3 := hid hx3
  clear hx3
  generalize hx4 : lsV (tkI l) A E 4 = x4 at *
  have X4 := hid hx4
  clear hx4
  generalize hls : lsS (tkI l) A E 5 = SS at *
  obtain ⟨A1, E1⟩ := SS
  clear hls
  simp only at NU EQ
  go_enter Try.func55, Try.ntmps55
  go_upto_region 1 with fail
  have B0 := hid ((((Below.refl w.heap.size w).alloc (Nat.le_refl _) (.cells #[.slice a n c, .int .i64 A, .int .i64 E] 102)).alloc (by simp) (.cells #[.slice none 0 0, .int .i64 0, .int .i64 0] 102)).alloc (by simp; omega) (.cells #[.int .i64 0, .int .i64 0, .int .i64 0, .int .i64 0, .int .i64 0] 27))
  have X0 := hid (((Blk.alloc w #[.slice a n c, .int .i64 A, .int .i64 E] (102)).below ((Below.refl _ _).alloc (Nat.le_refl _) (.cells #[.slice none 0 0, .int .i64 0, .int .i64 0] 102))).below ((Below.refl _ _).alloc (Nat.le_refl _) (.cells #[.int .i64 0, .int .i64 0, .int .i64 0, .int .i64 0, .int .i64 0] 27)))
  have Y0 := hid ((Blk.alloc (w.alloc (.cells #[.slice a n c, .int .i64 A, .int .i64 E] 102)) #[.slice none 0 0, .int .i64 0, .int .i64 0] (102)).below ((Below.refl _ _).alloc (Nat.le_refl _) (.cells #[.int .i64 0, .int .i64 0, .int .i64 0, .int .i64 0, .int .i64 0] 27)))
  have Z0 := hid (Blk.alloc ((w.alloc (.cells #[.slice a n c, .int .i64 A, .int .i64 E] 102)).alloc (.cells #[.slice none 0 0, .int .i64 0, .int .i64 0] 102)) #[.int .i64 0, .int .i64 0, .int .i64 0, .int .i64 0, .int .i64 0] (27))
  have s0 : Hid (w.heap.size + 3 ≤ (((w.alloc (.cells #[.slice a n c, .int .i64 A, .int .i64 E] 102)).alloc (.cells #[.slice none 0 0, .int .i64 0, .int .i64 0] 102)).alloc (.cells #[.int .i64 0, .int .i64 0, .int .i64 0, .int .i64 0, .int .i64 0] 27)).heap.size) := by unfold Hid; simp
  rw [World.size_alloc] at Y0
  rw [World.size_alloc, World.size_alloc] at Z0
  generalize ((w.alloc (.cells #[.slice a n c, .int .i64 A, .int .i64 E] 102)).alloc (.cells #[.slice none 0 0, .int .i64 0, .int .i64 0] 102)).alloc (.cells #[.int .i64 0, .int .i64 0, .int .i64 0, .int .i64 0, .int .i64 0] 27) = W0 at *
  have LD := X0.out.loadAt Try.underlying102 rfl sizeRead
  have C0 := hid (NU.out W0 (HL.out.below B0.out))
  go_wp2_with (refine wpList_load_at 102 rfl (.tmp 1) rfl _ _ rfl _ LD ?_)
  with_reducible refine C0.out.mono ?_
  rintro e w1 ⟨g, rfl, hg, hb, b1⟩
  have hg3 : w.heap.size + 3 ≤ g := by have := s0.out; omega
  have X1 := hid (X0.out.below b1)
  have BX := X1.out
  unfold Blk at BX
  have XR := hid (X1.out.row #[.slice a n c, .int .i64 A1, .int .i64 E1])
  have YR := hid ((Y0.out.below b1).other (ds := #[.slice a n c, .int .i64 A1, .int .i64 E1]) (show w.heap.size + 1 ≠ w.heap.size by omega))
  have ZR := hid ((Z0.out.below b1).other (ds := #[.slice a n c, .int .i64 A1, .int .i64 E1]) (show w.heap.size + 1 + 1 ≠ w.heap.size by omega))
  have GR := hid (hb.other (ds := #[.slice a n c, .int .i64 A1, .int .i64 E1]) (show g ≠ w.heap.size by omega))
  have BR := hid (setRow_below (q := w.heap.size) (cs := #[.slice a n c, .int .i64 A1, .int .i64 E1]) (B0.out.trans (b1.mono B0.out.size)) (Nat.le_refl _))
  clear C0 LD X0 Y0 Z0 B0 b1 s0 NU X1 hb hg
  go_upto_region 2 with (refine wpList_store_row rfl 102 (.tmp 1) (.tmp 8) rfl w.heap.size #[.slice a n c, .int .i64 A1, .int .i64 E1] rfl rfl 102 _ BX sizeRead rfl (by simp [Value.oneCell']) ?_)
  clear BX
  generalize w1.setRow w.heap.size #[.slice a n c, .int .i64 A1, .int .i64 E1] = W2 at *
  have dr : Blk W2.drew w.heap.size 102 #[.slice a n c, .int .i64 A1, .int .i64 E1] := XR.out
  have dy : Blk W2.drew (w.heap.size + 1) 102 #[.slice none 0 0, .int .i64 0, .int .i64 0] := YR.out
  have dz : Blk W2.drew (w.heap.size + 2) 27 #[.int .i64 0, .int .i64 0, .int .i64 0, .int .i64 0, .int .i64 0] := ZR.out
  have dg : Blk W2.drew g 2 #[.int .i64 x0, .int .i64 x1, .int .i64 x2, .int .i64 x3, .int .i64 x4] := GR.out
  have db : Below w.heap.size w W2.drew := BR.out.drew
  clear XR YR ZR GR BR
  refine wp_region_held_drew (S := fun W => Blk W w.heap.size 102 #[.slice a n c, .int .i64 A1, .int .i64 E1] ∧ Blk W g 2 #[.int .i64 x0, .int .i64 x1, .int .i64 x2, .int .i64 x3, .int .i64 x4]) (by kernel_rfl) ⟨dr, dg⟩ (fun hHeld => ?_)
  generalize W2.drew = WD at *
  refine wpAnyH_take (i := 0) (v := .agg #[.slice a n c, .int .i64 A1, .int .i64 E1]) rfl (by kernel_rfl) (by kernel_rfl) (by kernel_rfl) (fun _ _ _ h => h) (yieldsIf_load_mid (by rfl) 102 (.tmp 1) rfl w.heap.size 0 rfl (#[.slice a n c, .int .i64 A1, .int .i64 E1] : Array Value).toList _ (fun W hW => hW.1.range) Try.underlying102 rfl sizeRead) (by assumption) ?_
  (try simp only [Act.put, List.getElem_toArray, List.getElem_cons_succ, List.getElem_cons_zero, List.setIfInBounds_toArray, List.set_cons_zero, List.set_cons_succ])
  refine wpAnyH_take (i := 1) (v := .slice (some ⟨g, 0, none⟩) 5 5) rfl (by kernel_rfl) (by kernel_rfl) (by kernel_rfl) (fun _ _ _ h => h) (Or.inl ⟨by rfl, ?_⟩) (by assumption) ?_
  · (intro w hSw; (try dsimp only at hSw); obtain ⟨hr, hg⟩ := hSw;  go_simp)
  (try simp only [Act.put, List.getElem_toArray, List.getElem_cons_succ, List.getElem_cons_zero, List.setIfInBounds_toArray, List.set_cons_zero, List.set_cons_succ])
  refine wpAnyH_take (i := 2) (v := .pointer (some ⟨g, 0, none⟩)) rfl (by kernel_rfl) (by kernel_rfl) (by kernel_rfl) (fun _ _ _ h => h) (Or.inl ⟨by rfl, ?_⟩) (by assumption) ?_
  · (intro w hSw; (try dsimp only at hSw); obtain ⟨hr, hg⟩ := hSw;  go_simp)
  (try simp only [Act.put, List.getElem_toArray, List.getElem_cons_succ, List.getElem_cons_zero, List.setIfInBounds_toArray, List.set_cons_zero, List.set_cons_succ])
  refine wpAnyH_take (i := 3) (v := .int .i64 x0) rfl (by kernel_rfl) (by kernel_rfl) (by kernel_rfl) (fun _ _ _ h => h) (Or.inl ⟨by rfl, ?_⟩) (by assumption) ?_
  · (intro w hSw; (try dsimp only at hSw); obtain ⟨hr, hg⟩ := hSw; have hc := hg.cellAt 0 _ rfl; go_simp)
  (try simp only [Act.put, List.getElem_toArray, List.getElem_cons_succ, List.getElem_cons_zero, List.setIfInBounds_toArray, List.set_cons_zero, List.set_cons_succ])
  refine wpAnyH_take (i := 4) (v := .slice (some ⟨g, 0, none⟩) 5 5) rfl (by kernel_rfl) (by kernel_rfl) (by kernel_rfl) (fun _ _ _ h => h) (Or.inl ⟨by rfl, ?_⟩) (by assumption) ?_
  · (intro w hSw; (try dsimp only at hSw); obtain ⟨hr, hg⟩ := hSw;  go_simp)
  (try simp only [Act.put, List.getElem_toArray, List.getElem_cons_succ, List.getElem_cons_zero, List.setIfInBounds_toArray, List.set_cons_zero, List.set_cons_succ])
  refine wpAnyH_take (i := 5) (v := .pointer (some ⟨g, 1, none⟩)) rfl (by kernel_rfl) (by kernel_rfl) (by kernel_rfl) (fun _ _ _ h => h) (Or.inl ⟨by rfl, ?_⟩) (by assumption) ?_
  · (intro w hSw; (try dsimp only at hSw); obtain ⟨hr, hg⟩ := hSw;  go_simp)
  (try simp only [Act.put, List.getElem_toArray, List.getElem_cons_succ, List.getElem_cons_zero, List.setIfInBounds_toArray, List.set_cons_zero, List.set_cons_succ])
  refine wpAnyH_take (i := 6) (v := .int .i64 x1) rfl (by kernel_rfl) (by kernel_rfl) (by kernel_rfl) (fun _ _ _ h => h) (Or.inl ⟨by rfl, ?_⟩) (by assumption) ?_
  · (intro w hSw; (try dsimp only at hSw); obtain ⟨hr, hg⟩ := hSw; have hc := hg.cellAt 1 _ rfl; go_simp)
  (try simp only [Act.put, List.getElem_toArray, List.getElem_cons_succ, List.getElem_cons_zero, List.setIfInBounds_toArray, List.set_cons_zero, List.set_cons_succ])
  refine wpAnyH_take (i := 7) (v := .slice (some ⟨g, 0, none⟩) 5 5) rfl (by kernel_rfl) (by kernel_rfl) (by kernel_rfl) (fun _ _ _ h => h) (Or.inl ⟨by rfl, ?_⟩) (by assumption) ?_
  · (intro w hSw; (try dsimp only at hSw); obtain ⟨hr, hg⟩ := hSw;  go_simp)
  (try simp only [Act.put, List.getElem_toArray, List.getElem_cons_succ, List.getElem_cons_zero, List.setIfInBounds_toArray, List.set_cons_zero, List.set_cons_succ])
  refine wpAnyH_take (i := 8) (v := .pointer (some ⟨g, 2, none⟩)) rfl (by kernel_rfl) (by kernel_rfl) (by kernel_rfl) (fun _ _ _ h => h) (Or.inl ⟨by rfl, ?_⟩) (by assumption) ?_
  · (intro w hSw; (try dsimp only at hSw); obtain ⟨hr, hg⟩ := hSw;  go_simp)
  (try simp only [Act.put, List.getElem_toArray, List.getElem_cons_succ, List.getElem_cons_zero, List.setIfInBounds_toArray, List.set_cons_zero, List.set_cons_succ])
  refine wpAnyH_take (i := 9) (v := .int .i64 x2) rfl (by kernel_rfl) (by kernel_rfl) (by kernel_rfl) (fun _ _ _ h => h) (Or.inl ⟨by rfl, ?_⟩) (by assumption) ?_
  · (intro w hSw; (try dsimp only at hSw); obtain ⟨hr, hg⟩ := hSw; have hc := hg.cellAt 2 _ rfl; go_simp)
  (try simp only [Act.put, List.getElem_toArray, List.getElem_cons_succ, List.getElem_cons_zero, List.setIfInBounds_toArray, List.set_cons_zero, List.set_cons_succ])
  refine wpAnyH_take (i := 10) (v := .slice (some ⟨g, 0, none⟩) 5 5) rfl (by kernel_rfl) (by kernel_rfl) (by kernel_rfl) (fun _ _ _ h => h) (Or.inl ⟨by rfl, ?_⟩) (by assumption) ?_
  · (intro w hSw; (try dsimp only at hSw); obtain ⟨hr, hg⟩ := hSw;  go_simp)
  (try simp only [Act.put, List.getElem_toArray, List.getElem_cons_succ, List.getElem_cons_zero, List.setIfInBounds_toArray, List.set_cons_zero, List.set_cons_succ])
  refine wpAnyH_take (i := 11) (v := .pointer (some ⟨g, 3, none⟩)) rfl (by kernel_rfl) (by kernel_rfl) (by kernel_rfl) (fun _ _ _ h => h) (Or.inl ⟨by rfl, ?_⟩) (by assumption) ?_
  · (intro w hSw; (try dsimp only at hSw); obtain ⟨hr, hg⟩ := hSw;  go_simp)
  (try simp only [Act.put, List.getElem_toArray, List.getElem_cons_succ, List.getElem_cons_zero, List.setIfInBounds_toArray, List.set_cons_zero, List.set_cons_succ])
  refine wpAnyH_take (i := 12) (v := .int .i64 x3) rfl (by kernel_rfl) (by kernel_rfl) (by kernel_rfl) (fun _ _ _ h => h) (Or.inl ⟨by rfl, ?_⟩) (by assumption) ?_
  · (intro w hSw; (try dsimp only at hSw); obtain ⟨hr, hg⟩ := hSw; have hc := hg.cellAt 3 _ rfl; go_simp)
  (try simp only [Act.put, List.getElem_toArray, List.getElem_cons_succ, List.getElem_cons_zero, List.setIfInBounds_toArray, List.set_cons_zero, List.set_cons_succ])
  refine wpAnyH_take (i := 13) (v := .slice (some ⟨g, 0, none⟩) 5 5) rfl (by kernel_rfl) (by kernel_rfl) (by kernel_rfl) (fun _ _ _ h => h) (Or.inl ⟨by rfl, ?_⟩) (by assumption) ?_
  · (intro w hSw; (try dsimp only at hSw); obtain ⟨hr, hg⟩ := hSw;  go_simp)
  (try simp only [Act.put, List.getElem_toArray, List.getElem_cons_succ, List.getElem_cons_zero, List.setIfInBounds_toArray, List.set_cons_zero, List.set_cons_succ])
  refine wpAnyH_take (i := 14) (v := .pointer (some ⟨g, 4, none⟩)) rfl (by kernel_rfl) (by kernel_rfl) (by kernel_rfl) (fun _ _ _ h => h) (Or.inl ⟨by rfl, ?_⟩) (by assumption) ?_
  · (intro w hSw; (try dsimp only at hSw); obtain ⟨hr, hg⟩ := hSw;  go_simp)
  (try simp only [Act.put, List.getElem_toArray, List.getElem_cons_succ, List.getElem_cons_zero, List.setIfInBounds_toArray, List.set_cons_zero, List.set_cons_succ])
  refine wpAnyH_take (i := 15) (v := .int .i64 x4) rfl (by kernel_rfl) (by kernel_rfl) (by kernel_rfl) (fun _ _ _ h => h) (Or.inl ⟨by rfl, ?_⟩) (by assumption) ?_
  · (intro w hSw; (try dsimp only at hSw); obtain ⟨hr, hg⟩ := hSw; have hc := hg.cellAt 4 _ rfl; go_simp)
  (try simp only [Act.put, List.getElem_toArray, List.getElem_cons_succ, List.getElem_cons_zero, List.setIfInBounds_toArray, List.set_cons_zero, List.set_cons_succ])
  refine wpAnyH_take (i := 16) (v := .agg #[.int .i64 x0, .int .i64 x1, .int .i64 x2, .int .i64 x3, .int .i64 x4]) rfl (by kernel_rfl) (by kernel_rfl) (by kernel_rfl) (fun _ _ _ h => h) (yieldsIf_build (by rfl) _ _ rfl #[.int .i64 x0, .int .i64 x1, .int .i64 x2, .int .i64 x3, .int .i64 x4] (by kernel_rfl)) (by assumption) ?_
  (try simp only [Act.put, List.getElem_toArray, List.getElem_cons_succ, List.getElem_cons_zero, List.setIfInBounds_toArray, List.set_cons_zero, List.set_cons_succ])
  refine wpAnyH_ready (rs := [17]) (by kernel_rfl) (by simp) ?_
  refine AllReadyH.cons rfl (fun K hK => ?_) AllReadyH.nil
  refine storeRow_step rfl 102 (.tmp 2) (.tmp 10) rfl (w.heap.size + 1) #[.slice a n c, .int .i64 A1, .int .i64 E1] rfl rfl 102 _ dy sizeRead rfl (by simp [Value.oneCell']) ?_
  refine hK.out _ _ ⟨dr.other (by omega), dg.other (by omega)⟩ (fun hHeld => ?_)
  clear hK K
  (try simp only [Act.put, List.getElem_toArray, List.getElem_cons_succ, List.getElem_cons_zero, List.setIfInBounds_toArray, List.set_cons_zero, List.set_cons_succ])
  refine wpAnyH_ready (rs := [18]) (by kernel_rfl) (by simp) ?_
  refine AllReadyH.cons rfl (fun K hK => ?_) AllReadyH.nil
  refine storeRow_step rfl 27 (.tmp 3) (.tmp 26) rfl (w.heap.size + 2) #[.int .i64 x0, .int .i64 x1, .int .i64 x2, .int .i64 x3, .int .i64 x4] rfl rfl 27 _ (dz.other (by omega)) sizeNod rfl (by simp [Value.oneCell']) ?_
  refine hK.out _ _ ⟨(dr.other (by omega)).other (by omega), (dg.other (by omega)).other (by omega)⟩ (fun hHeld => ?_)
  clear hK K
  (try simp only [Act.put, List.getElem_toArray, List.getElem_cons_succ, List.getElem_cons_zero, List.setIfInBounds_toArray, List.set_cons_zero, List.set_cons_succ])
  refine wpAnyH_done (by kernel_rfl) ?_ _
  clear hHeld
  go_wp2_with fail
  refine bodyPost_ret (results_cells2 rfl rfl rfl (((dy.row _).other (by omega)).loadVar Try.underlying102 rfl sizeRead) (((dz.other (by omega)).row #[.int .i64 x0, .int .i64 x1, .int .i64 x2, .int .i64 x3, .int .i64 x4]).loadVar Try.underlying27 rfl sizeNod)) rfl ?_
  rw [EQ.out]
  exact ⟨rfl, setRow_below (setRow_below db (by omega)) (by omega)⟩

set_option maxRecDepth 100000 in
set_option maxHeartbeats 8000000 in
theorem daqueue_any (a : Option Addr) (n c : Nat) (l : List Int) (A E : Int) (w : World) (hl : HoldsB w a n c l) (h0 : 0 ≤ A) (h1 : A ≤ n) :
    Calls Try.prog 54 #[.agg #[.slice a n c, .int .i64 A, .int .i64 E]] w fun e w' => e = .returned (.tuple #[.agg #[.slice a n c, .int .i64 (rdQ l A E).2.1, .int .i64 (rdQ l A E).2.2], .agg (rdQ l A E).1.cs.toArray]) ∧ Below w.heap.size w w' := by
  have HL := hid hl
  have EQ : Hid (rdQ l A E = (⟨lsV (tkI l) A E 0, lsV (tkI l) A E 1, lsV (tkI l) A E 2, lsV (tkI l) A E 3, lsV (tkI l) A E 4, lsV (tkI l) A E 5, lsV (tkI l) A E 6⟩, lsS (tkI l) A E 7)) := by unfold Hid rdQ; simp only [tkc_ls]
  have NU := hid (fun W (H : HoldsB W a n c l) => dnums7_any a n c l A E W H h0 h1)
  clear hl
  generalize hx0 : lsV (tkI l) A E 0 = x0 at *
  have X0 := hid hx0
  clear hx0
  generalize hx1 : lsV (tkI l) A E 1 = x1 at *
  have X1 := hid hx1
  clear hx1
  generalize hx2 : lsV (tkI l) A E 2 = x2 at *
  have X2 := hid hx2
  clear hx2
  generalize hx3 : lsV (tkI l) A E 3 = x3 at *
  have X3 := hid hx3
  clear hx3
  generalize hx4 : lsV (tkI l) A E 4 = x4 at *
  have X4 := hid hx4
  clear hx4
  generalize hx5 : lsV (tkI l) A E 5 = x5 at *
  have X5 := hid hx5
  clear hx5
  generalize hx6 : lsV (tkI l) A E 6 = x6 at *
  have X6 := hid hx6
  clear hx6
  generalize hls : lsS (tkI l) A E 7 = SS at *
  obtain ⟨A1, E1⟩ := SS
  clear hls
  simp only at NU EQ
  go_enter Try.func54, Try.ntmps54
  go_upto_region 1 with fail
  have B0 := hid ((((Below.refl w.heap.size w).alloc (Nat.le_refl _) (.cells #[.slice a n c, .int .i64 A, .int .i64 E] 102)).alloc (by simp) (.cells #[.slice none 0 0, .int .i64 0, .int .i64 0] 102)).alloc (by simp; omega) (.cells #[.int .i64 0, .int .i64 0, .int .i64 0, .int .i64 0, .int .i64 0, .int .i64 0, .int .i64 0] 25))
  have X0 := hid (((Blk.alloc w #[.slice a n c, .int .i64 A, .int .i64 E] (102)).below ((Below.refl _ _).alloc (Nat.le_refl _) (.cells #[.slice none 0 0, .int .i64 0, .int .i64 0] 102))).below ((Below.refl _ _).alloc (Nat.le_refl _) (.cells #[.int .i64 0, .int .i64 0, .int .i64 0, .int .i64 0, .int .i64 0, .int .i64 0, .int .i64 0] 25)))
  have Y0 := hid ((Blk.alloc (w.alloc (.cells #[.slice a n c, .int .i64 A, .int .i64 E] 102)) #[.slice none 0 0, .int .i64 0, .int .i64 0] (102)).below ((Below.refl _ _).alloc (Nat.le_refl _) (.cells #[.int .i64 0, .int .i64 0, .int .i64 0, .int .i64 0, .int .i64 0, .int .i64 0, .int .i64 0] 25)))
  have Z0 := hid (Blk.alloc ((w.alloc (.cells #[.slice a n c, .int .i64 A, .int .i64 E] 102)).alloc (.cells #[.slice none 0 0, .int .i64 0, .int .i64 0] 102)) #[.int .i64 0, .int .i64 0, .int .i64 0, .int .i64 0, .int .i64 0, .int .i64 0, .int .i64 0] (25))
  have s0 : Hid (w.heap.size + 3 ≤ (((w.alloc (.cells #[.slice a n c, .int .i64 A, .int .i64 E] 102)).alloc (.cells #[.slice none 0 0, .int .i64 0, .int .i64 0] 102)).alloc (.cells #[.int .i64 0, .int .i64 0, .int .i64 0, .int .i64 0, .int .i64 0, .int .i64 0, .int .i64 0] 25)).heap.size) := by unfold Hid; simp
  rw [World.size_alloc] at Y0
  rw [World.size_alloc, World.size_alloc] at Z0
  generalize ((w.alloc (.cells #[.slice a n c, .int .i64 A, .int .i64 E] 102)).alloc (.cells #[.slice none 0 0, .int .i64 0, .int .i64 0] 102)).alloc (.cells #[.int .i64 0, .int .i64 0, .int .i64 0, .int .i64 0, .int .i64 0, .int .i64 0, .int .i64 0] 25) = W0 at *
  have LD := X0.out.loadAt Try.underlying102 rfl sizeRead
  have C0 := hid (NU.out W0 (HL.out.below B0.out))
  go_wp2_with (refine wpList_load_at 102 rfl (.tmp 1) rfl _ _ rfl _ LD ?_)
  with_reducible refine C0.out.mono ?_
  rintro e w1 ⟨g, rfl, hg, hb, b1⟩
  have hg3 : w.heap.size + 3 ≤ g := by have := s0.out; omega
  have X1 := hid (X0.out.below b1)
  have BX := X1.out
  unfold Blk at BX
  have XR := hid (X1.out.row #[.slice a n c, .int .i64 A1, .int .i64 E1])
  have YR := hid ((Y0.out.below b1).other (ds := #[.slice a n c, .int .i64 A1, .int .i64 E1]) (show w.heap.size + 1 ≠ w.heap.size by omega))
  have ZR := hid ((Z0.out.below b1).other (ds := #[.slice a n c, .int .i64 A1, .int .i64 E1]) (show w.heap.size + 1 + 1 ≠ w.heap.size by omega))
  have GR := hid (hb.other (ds := #[.slice a n c, .int .i64 A1, .int .i64 E1]) (show g ≠ w.heap.size by omega))
  have BR := hid (setRow_below (q := w.heap.size) (cs := #[.slice a n c, .int .i64 A1, .int .i64 E1]) (B0.out.trans (b1.mono B0.out.size)) (Nat.le_refl _))
  clear C0 LD X0 Y0 Z0 B0 b1 s0 NU X1 hb hg
  go_upto_region 2 with (refine wpList_store_row rfl 102 (.tmp 1) (.tmp 8) rfl w.heap.size #[.slice a n c, .int .i64 A1, .int .i64 E1] rfl rfl 102 _ BX sizeRead rfl (by simp [Value.oneCell']) ?_)
  clear BX
  generalize w1.setRow w.heap.size #[.slice a n c, .int .i64 A1, .int .i64 E1] = W2 at *
  have dr : Blk W2.drew w.heap.size 102 #[.slice a n c, .int .i64 A1, .int .i64 E1] := XR.out
  have dy : Blk W2.drew (w.heap.size + 1) 102 #[.slice none 0 0, .int .i64 0, .int .i64 0] := YR.out
  have dz : Blk W2.drew (w.heap.size + 2) 25 #[.int .i64 0, .int .i64 0, .int .i64 0, .int .i64 0, .int .i64 0, .int .i64 0, .int .i64 0] := ZR.out
  have dg : Blk W2.drew g 2 #[.int .i64 x0, .int .i64 x1, .int .i64 x2, .int .i64 x3, .int .i64 x4, .int .i64 x5, .int .i64 x6] := GR.out
  have db : Below w.heap.size w W2.drew := BR.out.drew
  clear XR YR ZR GR BR
  refine wp_region_held_drew (S := fun W => Blk W w.heap.size 102 #[.slice a n c, .int .i64 A1, .int .i64 E1] ∧ Blk W g 2 #[.int .i64 x0, .int .i64 x1, .int .i64 x2, .int .i64 x3, .int .i64 x4, .int .i64 x5, .int .i64 x6]) (by kernel_rfl) ⟨dr, dg⟩ (fun hHeld => ?_)
  generalize W2.drew = WD at *
  refine wpAnyH_take (i := 0) (v := .agg #[.slice a n c, .int .i64 A1, .int .i64 E1]) rfl (by kernel_rfl) (by kernel_rfl) (by kernel_rfl) (fun _ _ _ h => h) (yieldsIf_load_mid (by rfl) 102 (.tmp 1) rfl w.heap.size 0 rfl (#[.slice a n c, .int .i64 A1, .int .i64 E1] : Array Value).toList _ (fun W hW => hW.1.range) Try.underlying102 rfl sizeRead) (by assumption) ?_
  (try simp only [Act.put, List.getElem_toArray, List.getElem_cons_succ, List.getElem_cons_zero, List.setIfInBounds_toArray, List.set_cons_zero, List.set_cons_succ])
  refine wpAnyH_take (i := 1) (v := .slice (some ⟨g, 0, none⟩) 7 7) rfl (by kernel_rfl) (by kernel_rfl) (by kernel_rfl) (fun _ _ _ h => h) (Or.inl ⟨by rfl, ?_⟩) (by assumption) ?_
  · (intro w hSw; (try dsimp only at hSw); obtain ⟨hr, hg⟩ := hSw;  go_simp)
  (try simp only [Act.put, List.getElem_toArray, List.getElem_cons_succ, List.getElem_cons_zero, List.setIfInBounds_toArray, List.set_cons_zero, List.set_cons_succ])
  refine wpAnyH_take (i := 2) (v := .pointer (some ⟨g, 0, none⟩)) rfl (by kernel_rfl) (by kernel_rfl) (by kernel_rfl) (fun _ _ _ h => h) (Or.inl ⟨by rfl, ?_⟩) (by assumption) ?_
  · (intro w hSw; (try dsimp only at hSw); obtain ⟨hr, hg⟩ := hSw;  go_simp)
  (try simp only [Act.put, List.getElem_toArray, List.getElem_cons_succ, List.getElem_cons_zero, List.setIfInBounds_toArray, List.set_cons_zero, List.set_cons_succ])
  refine wpAnyH_take (i := 3) (v := .int .i64 x0) rfl (by kernel_rfl) (by kernel_rfl) (by kernel_rfl) (fun _ _ _ h => h) (Or.inl ⟨by rfl, ?_⟩) (by assumption) ?_
  · (intro w hSw; (try dsimp only at hSw); obtain ⟨hr, hg⟩ := hSw; have hc := hg.cellAt 0 _ rfl; go_simp)
  (try simp only [Act.put, List.getElem_toArray, List.getElem_cons_succ, List.getElem_cons_zero, List.setIfInBounds_toArray, List.set_cons_zero, List.set_cons_succ])
  refine wpAnyH_take (i := 4) (v := .slice (some ⟨g, 0, none⟩) 7 7) rfl (by kernel_rfl) (by kernel_rfl) (by kernel_rfl) (fun _ _ _ h => h) (Or.inl ⟨by rfl, ?_⟩) (by assumption) ?_
  · (intro w hSw; (try dsimp only at hSw); obtain ⟨hr, hg⟩ := hSw;  go_simp)
  (try simp only [Act.put, List.getElem_toArray, List.getElem_cons_succ, List.getElem_cons_zero, List.setIfInBounds_toArray, List.set_cons_zero, List.set_cons_succ])
  refine wpAnyH_take (i := 5) (v := .pointer (some ⟨g, 1, none⟩)) rfl (by kernel_rfl) (by kernel_rfl) (by kernel_rfl) (fun _ _ _ h => h) (Or.inl ⟨by rfl, ?_⟩) (by assumption) ?_
  · (intro w hSw; (try dsimp only at hSw); obtain ⟨hr, hg⟩ := hSw;  go_simp)
  (try simp only [Act.put, List.getElem_toArray, List.getElem_cons_succ, List.getElem_cons_zero, List.setIfInBounds_toArray, List.set_cons_zero, List.set_cons_succ])
  refine wpAnyH_take (i := 6) (v := .int .i64 x1) rfl (by kernel_rfl) (by kernel_rfl) (by kernel_rfl) (fun _ _ _ h => h) (Or.inl ⟨by rfl, ?_⟩) (by assumption) ?_
  · (intro w hSw; (try dsimp only at hSw); obtain ⟨hr, hg⟩ := hSw; have hc := hg.cellAt 1 _ rfl; go_simp)
  (try simp only [Act.put, List.getElem_toArray, List.getElem_cons_succ, List.getElem_cons_zero, List.setIfInBounds_toArray, List.set_cons_zero, List.set_cons_succ])
  refine wpAnyH_take (i := 7) (v := .slice (some ⟨g, 0, none⟩) 7 7) rfl (by kernel_rfl) (by kernel_rfl) (by kernel_rfl) (fun _ _ _ h => h) (Or.inl ⟨by rfl, ?_⟩) (by assumption) ?_
  · (intro w hSw; (try dsimp only at hSw); obtain ⟨hr, hg⟩ := hSw;  go_simp)
  (try simp only [Act.put, List.getElem_toArray, List.getElem_cons_succ, List.getElem_cons_zero, List.setIfInBounds_toArray, List.set_cons_zero, List.set_cons_succ])
  refine wpAnyH_take (i := 8) (v := .pointer (some ⟨g, 2, none⟩)) rfl (by kernel_rfl) (by kernel_rfl) (by kernel_rfl) (fun _ _ _ h => h) (Or.inl ⟨by rfl, ?_⟩) (by assumption) ?_
  · (intro w hSw; (try dsimp only at hSw); obtain ⟨hr, hg⟩ := hSw;  go_simp)
  (try simp only [Act.put, List.getElem_toArray, List.getElem_cons_succ, List.getElem_cons_zero, List.setIfInBounds_toArray, List.set_cons_zero, List.set_cons_succ])
  refine wpAnyH_take (i := 9) (v := .int .i64 x2) rfl (by kernel_rfl) (by kernel_rfl) (by kernel_rfl) (fun _ _ _ h => h) (Or.inl ⟨by rfl, ?_⟩) (by assumption) ?_
  · (intro w hSw; (try dsimp only at hSw); obtain ⟨hr, hg⟩ := hSw; have hc := hg.cellAt 2 _ rfl; go_simp)
  (try simp only [Act.put, List.getElem_toArray, List.getElem_cons_succ, List.getElem_cons_zero, List.setIfInBounds_toArray, List.set_cons_zero, List.set_cons_succ])
  refine wpAnyH_take (i := 10) (v := .slice (some ⟨g, 0, none⟩) 7 7) rfl (by kernel_rfl) (by kernel_rfl) (by kernel_rfl) (fun _ _ _ h => h) (Or.inl ⟨by rfl, ?_⟩) (by assumption) ?_
  · (intro w hSw; (try dsimp only at hSw); obtain ⟨hr, hg⟩ := hSw;  go_simp)
  (try simp only [Act.put, List.getElem_toArray, List.getElem_cons_succ, List.getElem_cons_zero, List.setIfInBounds_toArray, List.set_cons_zero, List.set_cons_succ])
  refine wpAnyH_take (i := 11) (v := .pointer (some ⟨g, 3, none⟩)) rfl (by kernel_rfl) (by kernel_rfl) (by kernel_rfl) (fun _ _ _ h => h) (Or.inl ⟨by rfl, ?_⟩) (by assumption) ?_
  · (intro w hSw; (try dsimp only at hSw); obtain ⟨hr, hg⟩ := hSw;  go_simp)
  (try simp only [Act.put, List.getElem_toArray, List.getElem_cons_succ, List.getElem_cons_zero, List.setIfInBounds_toArray, List.set_cons_zero, List.set_cons_succ])
  refine wpAnyH_take (i := 12) (v := .int .i64 x3) rfl (by kernel_rfl) (by kernel_rfl) (by kernel_rfl) (fun _ _ _ h => h) (Or.inl ⟨by rfl, ?_⟩) (by assumption) ?_
  · (intro w hSw; (try dsimp only at hSw); obtain ⟨hr, hg⟩ := hSw; have hc := hg.cellAt 3 _ rfl; go_simp)
  (try simp only [Act.put, List.getElem_toArray, List.getElem_cons_succ, List.getElem_cons_zero, List.setIfInBounds_toArray, List.set_cons_zero, List.set_cons_succ])
  refine wpAnyH_take (i := 13) (v := .slice (some ⟨g, 0, none⟩) 7 7) rfl (by kernel_rfl) (by kernel_rfl) (by kernel_rfl) (fun _ _ _ h => h) (Or.inl ⟨by rfl, ?_⟩) (by assumption) ?_
  · (intro w hSw; (try dsimp only at hSw); obtain ⟨hr, hg⟩ := hSw;  go_simp)
  (try simp only [Act.put, List.getElem_toArray, List.getElem_cons_succ, List.getElem_cons_zero, List.setIfInBounds_toArray, List.set_cons_zero, List.set_cons_succ])
  refine wpAnyH_take (i := 14) (v := .pointer (some ⟨g, 4, none⟩)) rfl (by kernel_rfl) (by kernel_rfl) (by kernel_rfl) (fun _ _ _ h => h) (Or.inl ⟨by rfl, ?_⟩) (by assumption) ?_
  · (intro w hSw; (try dsimp only at hSw); obtain ⟨hr, hg⟩ := hSw;  go_simp)
  (try simp only [Act.put, List.getElem_toArray, List.getElem_cons_succ, List.getElem_cons_zero, List.setIfInBounds_toArray, List.set_cons_zero, List.set_cons_succ])
  refine wpAnyH_take (i := 15) (v := .int .i64 x4) rfl (by kernel_rfl) (by kernel_rfl) (by kernel_rfl) (fun _ _ _ h => h) (Or.inl ⟨by rfl, ?_⟩) (by assumption) ?_
  · (intro w hSw; (try dsimp only at hSw); obtain ⟨hr, hg⟩ := hSw; have hc := hg.cellAt 4 _ rfl; go_simp)
  (try simp only [Act.put, List.getElem_toArray, List.getElem_cons_succ, List.getElem_cons_zero, List.setIfInBounds_toArray, List.set_cons_zero, List.set_cons_succ])
  refine wpAnyH_take (i := 16) (v := .agg #[.int .i64 x3, .int .i64 x4]) rfl (by kernel_rfl) (by kernel_rfl) (by kernel_rfl) (fun _ _ _ h => h) (yieldsIf_build (by rfl) _ _ rfl #[.int .i64 x3, .int .i64 x4] (by kernel_rfl)) (by assumption) ?_
  (try simp only [Act.put, List.getElem_toArray, List.getElem_cons_succ, List.getElem_cons_zero, List.setIfInBounds_toArray, List.set_cons_zero, List.set_cons_succ])
  refine wpAnyH_take (i := 17) (v := .slice (some ⟨g, 0, none⟩) 7 7) rfl (by kernel_rfl) (by kernel_rfl) (by kernel_rfl) (fun _ _ _ h => h) (Or.inl ⟨by rfl, ?_⟩) (by assumption) ?_
  · (intro w hSw; (try dsimp only at hSw); obtain ⟨hr, hg⟩ := hSw;  go_simp)
  (try simp only [Act.put, List.getElem_toArray, List.getElem_cons_succ, List.getElem_cons_zero, List.setIfInBounds_toArray, List.set_cons_zero, List.set_cons_succ])
  refine wpAnyH_take (i := 18) (v := .pointer (some ⟨g, 5, none⟩)) rfl (by kernel_rfl) (by kernel_rfl) (by kernel_rfl) (fun _ _ _ h => h) (Or.inl ⟨by rfl, ?_⟩) (by assumption) ?_
  · (intro w hSw; (try dsimp only at hSw); obtain ⟨hr, hg⟩ := hSw;  go_simp)
  (try simp only [Act.put, List.getElem_toArray, List.getElem_cons_succ, List.getElem_cons_zero, List.setIfInBounds_toArray, List.set_cons_zero, List.set_cons_succ])
  refine wpAnyH_take (i := 19) (v := .int .i64 x5) rfl (by kernel_rfl) (by kernel_rfl) (by kernel_rfl) (fun _ _ _ h => h) (Or.inl ⟨by rfl, ?_⟩) (by assumption) ?_
  · (intro w hSw; (try dsimp only at hSw); obtain ⟨hr, hg⟩ := hSw; have hc := hg.cellAt 5 _ rfl; go_simp)
  (try simp only [Act.put, List.getElem_toArray, List.getElem_cons_succ, List.getElem_cons_zero, List.setIfInBounds_toArray, List.set_cons_zero, List.set_cons_succ])
  refine wpAnyH_take (i := 20) (v := .slice (some ⟨g, 0, none⟩) 7 7) rfl (by kernel_rfl) (by kernel_rfl) (by kernel_rfl) (fun _ _ _ h => h) (Or.inl ⟨by rfl, ?_⟩) (by assumption) ?_
  · (intro w hSw; (try dsimp only at hSw); obtain ⟨hr, hg⟩ := hSw;  go_simp)
  (try simp only [Act.put, List.getElem_toArray, List.getElem_cons_succ, List.getElem_cons_zero, List.setIfInBounds_toArray, List.set_cons_zero, List.set_cons_succ])
  refine wpAnyH_take (i := 21) (v := .pointer (some ⟨g, 6, none⟩)) rfl (by kernel_rfl) (by kernel_rfl) (by kernel_rfl) (fun _ _ _ h => h) (Or.inl ⟨by rfl, ?_⟩) (by assumption) ?_
  · (intro w hSw; (try dsimp only at hSw); obtain ⟨hr, hg⟩ := hSw;  go_simp)
  (try simp only [Act.put, List.getElem_toArray, List.getElem_cons_succ, List.getElem_cons_zero, List.setIfInBounds_toArray, List.set_cons_zero, List.set_cons_succ])
  refine wpAnyH_take (i := 22) (v := .int .i64 x6) rfl (by kernel_rfl) (by kernel_rfl) (by kernel_rfl) (fun _ _ _ h => h) (Or.inl ⟨by rfl, ?_⟩) (by assumption) ?_
  · (intro w hSw; (try dsimp only at hSw); obtain ⟨hr, hg⟩ := hSw; have hc := hg.cellAt 6 _ rfl; go_simp)
  (try simp only [Act.put, List.getElem_toArray, List.getElem_cons_succ, List.getElem_cons_zero, List.setIfInBounds_toArray, List.set_cons_zero, List.set_cons_succ])
  refine wpAnyH_take (i := 23) (v := .agg #[.int .i64 x5, .int .i64 x6]) rfl (by kernel_rfl) (by kernel_rfl) (by kernel_rfl) (fun _ _ _ h => h) (yieldsIf_build (by rfl) _ _ rfl #[.int .i64 x5, .int .i64 x6] (by kernel_rfl)) (by assumption) ?_
  (try simp only [Act.put, List.getElem_toArray, List.getElem_cons_succ, List.getElem_cons_zero, List.setIfInBounds_toArray, List.set_cons_zero, List.set_cons_succ])
  refine wpAnyH_take (i := 24) (v := .agg #[.int .i64 x0, .int .i64 x1, .int .i64 x2, .int .i64 x3, .int .i64 x4, .int .i64 x5, .int .i64 x6]) rfl (by kernel_rfl) (by kernel_rfl) (by kernel_rfl) (fun _ _ _ h => h) (yieldsIf_build (by rfl) _ _ rfl #[.int .i64 x0, .int .i64 x1, .int .i64 x2, .int .i64 x3, .int .i64 x4, .int .i64 x5, .int .i64 x6] (by kernel_rfl)) (by assumption) ?_
  (try simp only [Act.put, List.getElem_toArray, List.getElem_cons_succ, List.getElem_cons_zero, List.setIfInBounds_toArray, List.set_cons_zero, List.set_cons_succ])
  refine wpAnyH_ready (rs := [25]) (by kernel_rfl) (by simp) ?_
  refine AllReadyH.cons rfl (fun K hK => ?_) AllReadyH.nil
  refine storeRow_step rfl 102 (.tmp 2) (.tmp 10) rfl (w.heap.size + 1) #[.slice a n c, .int .i64 A1, .int .i64 E1] rfl rfl 102 _ dy sizeRead rfl (by simp [Value.oneCell']) ?_
  refine hK.out _ _ ⟨dr.other (by omega), dg.other (by omega)⟩ (fun hHeld => ?_)
  clear hK K
  (try simp only [Act.put, List.getElem_toArray, List.getElem_cons_succ, List.getElem_cons_zero, List.setIfInBounds_toArray, List.set_cons_zero, List.set_cons_succ])
  refine wpAnyH_ready (rs := [26]) (by kernel_rfl) (by simp) ?_
  refine AllReadyH.cons rfl (fun K hK => ?_) AllReadyH.nil
  refine storeRow_step rfl 25 (.tmp 3) (.tmp 34) rfl (w.heap.size + 2) #[.int .i64 x0, .int .i64 x1, .int .i64 x2, .int .i64 x3, .int .i64 x4, .int .i64 x5, .int .i64 x6] rfl rfl 25 _ (dz.other (by omega)) sizeQue rfl (by simp [Value.oneCell']) ?_
  refine hK.out _ _ ⟨(dr.other (by omega)).other (by omega), (dg.other (by omega)).other (by omega)⟩ (fun hHeld => ?_)
  clear hK K
  (try simp only [Act.put, List.getElem_toArray, List.getElem_cons_succ, List.getElem_cons_zero, List.setIfInBounds_toArray, List.set_cons_zero, List.set_cons_succ])
  refine wpAnyH_done (by kernel_rfl) ?_ _
  clear hHeld
  go_wp2_with fail
  refine bodyPost_ret (results_cells2 rfl rfl rfl (((dy.row _).other (by omega)).loadVar Try.underlying102 rfl sizeRead) (((dz.other (by omega)).row #[.int .i64 x0, .int .i64 x1, .int .i64 x2, .int .i64 x3, .int .i64 x4, .int .i64 x5, .int .i64 x6]).loadVar Try.underlying25 rfl sizeQue)) rfl ?_
  rw [EQ.out]
  exact ⟨rfl, setRow_below (setRow_below db (by omega)) (by omega)⟩
end Go.Proofs.Ythkbddnkcljjpaa

namespace Go.Proofs.Ythkbddnkcljjpaa
open Go.RowKit Go.Deep Go.Maps
set_option linter.unusedVariables false
set_option linter.unusedSimpArgs false
theorem tkI_err {l : List Int} {A E : Int} (h : (tkI l A E).2.2 = 0) : E = 0 := by
  unfold tkI at h
  by_cases e : E = 0
  · exact e
  · rw [if_neg e] at h; exact absurd h e
theorem upT_err {l : List Int} {A E m f : Int} (h : (upT l A E m f).2.2 = 0) : E = 0 := by
  unfold upT at h
  by_cases e : E = 0
  · exact e
  · rw [if_neg e] at h; exact absurd h e
theorem lsS_err {l : List Int} {A E : Int} : ∀ k, (lsS (tkI l) A E k).2 = 0 → E = 0
  | 0, h => h
  | k + 1, h => lsS_err k (tkI_err h)
set_option maxRecDepth 100000 in
set_option maxHeartbeats 8000000 in
theorem datask_any (a : Option Addr) (n c : Nat) (l : List Int) (A E : Int) (w : World) (hl : HoldsB w a n c l) (h0 : 0 ≤ A) (h1 : A ≤ n) :
    Calls Try.prog 56 #[.agg #[.slice a n c, .int .i64 A, .int .i64 E]] w fun e w' => ∃ y : T7, e = .returned (.tuple #[.agg #[.slice a n c, .int .i64 (rdT l A E).2.1, .int .i64 (rdT l A E).2.2], .agg y.cs.toArray]) ∧ ((rdT l A E).2.2 = 0 → TaSame (rdT l A E).1 y ∧ OwnN w.heap.size w' (.slice y.sa y.sl y.sc) y.sl y.tk) ∧ Below w.heap.size w w' := by
  have HL := hid hl
  have hlen := hl.1
  have hnm := hl.2.1
  clear hl
  have EQ : Hid (rdT l A E = (⟨lsV (tkI l) A E 0, lsV (tkI l) A E 1, lsV (tkI l) A E 2, lsV (tkI l) A E 3, lsV (tkI l) A E 4, none, liC (tkI l) l (lsS (tkI l) A E 5).1 (lsS (tkI l) A E 5).2, 0, (tkI l (liF (tkI l) l (lsS (tkI l) A E 5).1 (lsS (tkI l) A E 5).2).1 (liF (tkI l) l (lsS (tkI l) A E 5).1 (lsS (tkI l) A E 5).2).2).1, liL (tkI l) l (lsS (tkI l) A E 5).1 (lsS (tkI l) A E 5).2⟩, (tkI l (liF (tkI l) l (lsS (tkI l) A E 5).1 (lsS (tkI l) A E 5).2).1 (liF (tkI l) l (lsS (tkI l) A E 5).1 (lsS (tkI l) A E 5).2).2).2)) := by unfold Hid rdT taE taB taC taL; simp only [tkc_ls]
  have a5 := lsS_at (pe := tkI l) (n := n) (E := E) (fun A E h0 h1 => by have := tkI_at l A E h0 (by omega); omega) h0 h1 5
  have aB := liF_at (pe := tkI l) (l := l) (E := (lsS (tkI l) A E 5).2) (fun A E h0 h1 => tkI_at l A E h0 h1) a5.1 (by omega)
  have N1 := hid (fun W (H : HoldsB W a n c l) => dnums5_any a n c l A E W H h0 h1)
  have N2 := hid (fun W (H : HoldsB W a n c l) => dlist_any a n c l (lsS (tkI l) A E 5).1 (lsS (tkI l) A E 5).2 W H a5.1 a5.2)
  have N3 := hid (fun W (H : HoldsB W a n c l) => dnum_any a n c l (liF (tkI l) l (lsS (tkI l) A E 5).1 (lsS (tkI l) A E 5).2).1 (liF (tkI l) l (lsS (tkI l) A E 5).1 (lsS (tkI l) A E 5).2).2 W H ⟨by omega, by omega⟩)
  have EE := hid (fun h => tkI_err (l := l) (A := (liF (tkI l) l (lsS (tkI l) A E 5).1 (lsS (tkI l) A E 5).2).1) (E := (liF (tkI l) l (lsS (tkI l) A E 5).1 (lsS (tkI l) A E 5).2).2) h)
  clear a5 aB
  generalize lsV (tkI l) A E 0 = x0 at *
  generalize lsV (tkI l) A E 1 = x1 at *
  generalize lsV (tkI l) A E 2 = x2 at *
  generalize lsV (tkI l) A E 3 = x3 at *
  generalize lsV (tkI l) A E 4 = x4 at *
  generalize liL (tkI l) l (lsS (tkI l) A E 5).1 (lsS (tkI l) A E 5).2 = LL at *
  generalize liC (tkI l) l (lsS (tkI l) A E 5).1 (lsS (tkI l) A E 5).2 = NC at *
  generalize hli : liF (tkI l) l (lsS (tkI l) A E 5).1 (lsS (tkI l) A E 5).2 = S2 at *
  clear hli
  generalize lsS (tkI l) A E 5 = S1 at *
  obtain ⟨P1, F1⟩ := S1
  obtain ⟨P2, F2⟩ := S2
  generalize hst : tkI l (P2, F2).1 (P2, F2).2 = S3 at *
  clear hst
  obtain ⟨st, P3, F3⟩ := S3
  simp only at EQ N1 N2 N3 EE
  go_enter Try.func56, Try.ntmps56
  go_upto_region 1 with fail
  have B := hid ((((Below.refl w.heap.size w).alloc (Nat.le_refl _) (.cells #[.slice a n c, .int .i64 A, .int .i64 E] 102)).alloc (by simp) (.cells #[.slice none 0 0, .int .i64 0, .int .i64 0] 102)).alloc (by simp; omega) (.cells #[.int .i64 0, .int .i64 0, .int .i64 0, .int .i64 0, .int .i64 0, .slice none 0 0, .int .i64 0] 30))
  have X := hid (((Blk.alloc w #[.slice a n c, .int .i64 A, .int .i64 E] (102)).below ((Below.refl _ _).alloc (Nat.le_refl _) (.cells #[.slice none 0 0, .int .i64 0, .int .i64 0] 102))).below ((Below.refl _ _).alloc (Nat.le_refl _) (.cells #[.int .i64 0, .int .i64 0, .int .i64 0, .int .i64 0, .int .i64 0, .slice none 0 0, .int .i64 0] 30)))
  have Y := hid ((Blk.alloc (w.alloc (.cells #[.slice a n c, .int .i64 A, .int .i64 E] 102)) #[.slice none 0 0, .int .i64 0, .int .i64 0] (102)).below ((Below.refl _ _).alloc (Nat.le_refl _) (.cells #[.int .i64 0, .int .i64 0, .int .i64 0, .int .i64 0, .int .i64 0, .slice none 0 0, .int .i64 0] 30)))
  have ZB := hid (Blk.alloc ((w.alloc (.cells #[.slice a n c, .int .i64 A, .int .i64 E] 102)).alloc (.cells #[.slice none 0 0, .int .i64 0, .int .i64 0] 102)) #[.int .i64 0, .int .i64 0, .int .i64 0, .int .i64 0, .int .i64 0, .slice none 0 0, .int .i64 0] (30))
  have s : Hid (w.heap.size + 3 ≤ (((w.alloc (.cells #[.slice a n c, .int .i64 A, .int .i64 E] 102)).alloc (.cells #[.slice none 0 0, .int .i64 0, .int .i64 0] 102)).alloc (.cells #[.int .i64 0, .int .i64 0, .int .i64 0, .int .i64 0, .int .i64 0, .slice none 0 0, .int .i64 0] 30)).heap.size) := by unfold Hid; simp
  rw [World.size_alloc] at Y
  rw [World.size_alloc, World.size_alloc] at ZB
  generalize ((w.alloc (.cells #[.slice a n c, .int .i64 A, .int .i64 E] 102)).alloc (.cells #[.slice none 0 0, .int .i64 0, .int .i64 0] 102)).alloc (.cells #[.int .i64 0, .int .i64 0, .int .i64 0, .int .i64 0, .int .i64 0, .slice none 0 0, .int .i64 0] 30) = W0 at *
  have LD := X.out.loadAt Try.underlying102 rfl sizeRead
  have CC := hid (N1.out W0 (HL.out.below B.out))
  go_wp2_with (refine wpList_load_at 102 rfl (.tmp 1) rfl _ _ rfl _ LD ?_)
  with_reducible refine CC.out.mono ?_
  rintro e w1 ⟨g, rfl, hg, hb, b1⟩
  have hg3 : w.heap.size + 3 ≤ g := by have := s.out; omega
  have hss := s.out
  have BX := X.out.below b1
  unfold Blk at BX
  replace X := hid ((X.out.below b1).row #[.slice a n c, .int .i64 P1, .int .i64 F1])
  replace Y := hid ((Y.out.below b1).other (ds := #[.slice a n c, .int .i64 P1, .int .i64 F1]) (show w.heap.size + 1 ≠ w.heap.size by omega))
  replace ZB := hid ((ZB.out.below b1).other (ds := #[.slice a n c, .int .i64 P1, .int .i64 F1]) (show w.heap.size + 1 + 1 ≠ w.heap.size by omega))
  have G := hid (hb.other (q := w.heap.size) (ds := #[.slice a n c, .int .i64 P1, .int .i64 F1]) (by omega))
  replace B := hid (setRow_below (q := w.heap.size) (cs := #[.slice a n c, .int .i64 P1, .int .i64 F1]) (B.out.trans (b1.mono B.out.size)) (Nat.le_refl _))
  replace s : Hid (w.heap.size + 3 ≤ (w1.setRow w.heap.size #[.slice a n c, .int .i64 P1, .int .i64 F1]).heap.size) := by unfold Hid; have := b1.size; simp; omega
  clear CC LD b1 hss hb
  go_upto_region 2 with (refine wpList_store_row rfl 102 (.tmp 1) (.tmp 10) rfl w.heap.size #[.slice a n c, .int .i64 P1, .int .i64 F1] rfl rfl 102 _ BX sizeRead rfl (by simp [Value.oneCell']) ?_)
  clear BX
  generalize w1.setRow w.heap.size #[.slice a n c, .int .i64 P1, .int .i64 F1] = W1 at *
  have LD := X.out.loadAt Try.underlying102 rfl sizeRead
  have CC := hid (N2.out W1 (HL.out.below B.out))
  go_wp2_with (refine wpList_load_at 102 rfl (.tmp 1) rfl _ _ rfl _ LD ?_)
  with_reducible refine CC.out.mono ?_
  rintro e w1 ⟨v, rfl, hv, hv2, b1⟩
  obtain ⟨va, vn, vc, rfl, hvg⟩ : ∃ va vn vc, v = .slice va vn vc ∧ (F2 = 0 → vn = NC ∧ OwnN W1.heap.size w1 (.slice va vn vc) vn LL) := by
    by_cases hF : F2 = 0
    · have h := hv hF
      obtain ⟨va, vc, rfl⟩ := h.form
      exact ⟨va, NC, vc, rfl, fun _ => ⟨rfl, h⟩⟩
    · exact ⟨none, 0, 0, hv2 hF, fun h => absurd h hF⟩
  have hve := hid (fun h => (hvg h).1)
  have hvo := fun h => (hvg h).2
  clear hv hv2 hvg
  have hss := s.out
  have BX := X.out.below b1
  unfold Blk at BX
  replace X := hid ((X.out.below b1).row #[.slice a n c, .int .i64 P2, .int .i64 F2])
  replace Y := hid ((Y.out.below b1).other (ds := #[.slice a n c, .int .i64 P2, .int .i64 F2]) (show w.heap.size + 1 ≠ w.heap.size by omega))
  replace ZB := hid ((ZB.out.below b1).other (ds := #[.slice a n c, .int .i64 P2, .int .i64 F2]) (show w.heap.size + 1 + 1 ≠ w.heap.size by omega))
  replace G := hid ((G.out.below b1).other (q := w.heap.size) (ds := #[.slice a n c, .int .i64 P2, .int .i64 F2]) (by omega))
  have OW := hid (fun z => ((hvo z).weaken (b' := w.heap.size + 3) (by omega)).row (q := w.heap.size) (by omega) #[.slice a n c, .int .i64 P2, .int .i64 F2])
  replace B := hid (setRow_below (q := w.heap.size) (cs := #[.slice a n c, .int .i64 P2, .int .i64 F2]) (B.out.trans (b1.mono B.out.size)) (Nat.le_refl _))
  replace s : Hid (w.heap.size + 3 ≤ (w1.setRow w.heap.size #[.slice a n c, .int .i64 P2, .int .i64 F2]).heap.size) := by unfold Hid; have := b1.size; simp; omega
  clear CC LD b1 hss hvo
  go_upto_region 3 with (refine wpList_store_row rfl 102 (.tmp 1) (.tmp 15) rfl w.heap.size #[.slice a n c, .int .i64 P2, .int .i64 F2] rfl rfl 102 _ BX sizeRead rfl (by simp [Value.oneCell']) ?_)
  clear BX
  generalize w1.setRow w.heap.size #[.slice a n c, .int .i64 P2, .int .i64 F2] = W2 at *
  have LD := X.out.loadAt Try.underlying102 rfl sizeRead
  have CC := hid (N3.out W2 (HL.out.below B.out))
  go_wp2_with (refine wpList_load_at 102 rfl (.tmp 1) rfl _ _ rfl _ LD ?_)
  with_reducible refine CC.out.mono ?_
  rintro e w1 ⟨rfl, b1⟩
  have hss := s.out
  have BX := X.out.below b1
  unfold Blk at BX
  replace X := hid ((X.out.below b1).row #[.slice a n c, .int .i64 P3, .int .i64 F3])
  replace Y := hid ((Y.out.below b1).other (ds := #[.slice a n c, .int .i64 P3, .int .i64 F3]) (show w.heap.size + 1 ≠ w.heap.size by omega))
  replace ZB := hid ((ZB.out.below b1).other (ds := #[.slice a n c, .int .i64 P3, .int .i64 F3]) (show w.heap.size + 1 + 1 ≠ w.heap.size by omega))
  replace G := hid ((G.out.below b1).other (q := w.heap.size) (ds := #[.slice a n c, .int .i64 P3, .int .i64 F3]) (by omega))
  replace OW := hid (fun z => ((OW.out z).below b1).row (q := w.heap.size) (by omega) #[.slice a n c, .int .i64 P3, .int .i64 F3])
  replace B := hid (setRow_below (q := w.heap.size) (cs := #[.slice a n c, .int .i64 P3, .int .i64 F3]) (B.out.trans (b1.mono B.out.size)) (Nat.le_refl _))
  replace s : Hid (w.heap.size + 3 ≤ (w1.setRow w.heap.size #[.slice a n c, .int .i64 P3, .int .i64 F3]).heap.size) := by unfold Hid; have := b1.size; simp; omega
  clear CC LD b1 hss
  go_upto_region 4 with (refine wpList_store_row rfl 102 (.tmp 1) (.tmp 20) rfl w.heap.size #[.slice a n c, .int .i64 P3, .int .i64 F3] rfl rfl 102 _ BX sizeRead rfl (by simp [Value.oneCell']) ?_)
  clear BX
  generalize w1.setRow w.heap.size #[.slice a n c, .int .i64 P3, .int .i64 F3] = W3 at *
  have dr : Blk W3.drew w.heap.size 102 #[.slice a n c, .int .i64 P3, .int .i64 F3] := X.out
  have dy : Blk W3.drew (w.heap.size + 1) 102 #[.slice none 0 0, .int .i64 0, .int .i64 0] := Y.out
  have dz : Blk W3.drew (w.heap.size + 2) 30 #[.int .i64 0, .int .i64 0, .int .i64 0, .int .i64 0, .int .i64 0, .slice none 0 0, .int .i64 0] := ZB.out
  have dg : Blk W3.drew g 2 #[.int .i64 x0, .int .i64 x1, .int .i64 x2, .int .i64 x3, .int .i64 x4] := G.out
  have dw := hid (fun z => (show OwnN (w.heap.size + 3) W3.drew _ _ _ from OW.out z))
  have db : Below w.heap.size w W3.drew := B.out.drew
  clear X Y ZB B s OW G
  refine wp_region_held_drew (S := fun W => Blk W w.heap.size 102 #[.slice a n c, .int .i64 P3, .int .i64 F3] ∧ Blk W g 2 #[.int .i64 x0, .int .i64 x1, .int .i64 x2, .int .i64 x3, .int .i64 x4]) (by kernel_rfl) ⟨dr, dg⟩ (fun hHeld => ?_)
  generalize W3.drew = WD at *
  refine wpAnyH_take (i := 0) (v := .agg #[.slice a n c, .int .i64 P3, .int .i64 F3]) rfl (by kernel_rfl) (by kernel_rfl) (by kernel_rfl) (fun _ _ _ h => h) (yieldsIf_load_mid (by rfl) 102 (.tmp 1) rfl w.heap.size 0 rfl (#[.slice a n c, .int .i64 P3, .int .i64 F3] : Array Value).toList _ (fun W hW => hW.1.range) Try.underlying102 rfl sizeRead) (by assumption) ?_
  (try simp only [Act.put, List.getElem_toArray, List.getElem_cons_succ, List.getElem_cons_zero, List.setIfInBounds_toArray, List.set_cons_zero, List.set_cons_succ])
  refine wpAnyH_take (i := 1) (v := .slice (some ⟨g, 0, none⟩) 5 5) rfl (by kernel_rfl) (by kernel_rfl) (by kernel_rfl) (fun _ _ _ h => h) (Or.inl ⟨by rfl, ?_⟩) (by assumption) ?_
  · (intro w hSw; (try dsimp only at hSw); obtain ⟨hr, hg⟩ := hSw;  go_simp)
  (try simp only [Act.put, List.getElem_toArray, List.getElem_cons_succ, List.getElem_cons_zero, List.setIfInBounds_toArray, List.set_cons_zero, List.set_cons_succ])
  refine wpAnyH_take (i := 2) (v := .pointer (some ⟨g, 0, none⟩)) rfl (by kernel_rfl) (by kernel_rfl) (by kernel_rfl) (fun _ _ _ h => h) (Or.inl ⟨by rfl, ?_⟩) (by assumption) ?_
  · (intro w hSw; (try dsimp only at hSw); obtain ⟨hr, hg⟩ := hSw;  go_simp)
  (try simp only [Act.put, List.getElem_toArray, List.getElem_cons_succ, List.getElem_cons_zero, List.setIfInBounds_toArray, List.set_cons_zero, List.set_cons_succ])
  refine wpAnyH_take (i := 3) (v := .int .i64 x0) rfl (by kernel_rfl) (by kernel_rfl) (by kernel_rfl) (fun _ _ _ h => h) (Or.inl ⟨by rfl, ?_⟩) (by assumption) ?_
  · (intro w hSw; (try dsimp only at hSw); obtain ⟨hr, hg⟩ := hSw; have hc := hg.cellAt 0 _ rfl; go_simp)
  (try simp only [Act.put, List.getElem_toArray, List.getElem_cons_succ, List.getElem_cons_zero, List.setIfInBounds_toArray, List.set_cons_zero, List.set_cons_succ])
  refine wpAnyH_take (i := 4) (v := .slice (some ⟨g, 0, none⟩) 5 5) rfl (by kernel_rfl) (by kernel_rfl) (by kernel_rfl) (fun _ _ _ h => h) (Or.inl ⟨by rfl, ?_⟩) (by assumption) ?_
  · (intro w hSw; (try dsimp only at hSw); obtain ⟨hr, hg⟩ := hSw;  go_simp)
  (try simp only [Act.put, List.getElem_toArray, List.getElem_cons_succ, List.getElem_cons_zero, List.setIfInBounds_toArray, List.set_cons_zero, List.set_cons_succ])
  refine wpAnyH_take (i := 5) (v := .pointer (some ⟨g, 1, none⟩)) rfl (by kernel_rfl) (by kernel_rfl) (by kernel_rfl) (fun _ _ _ h => h) (Or.inl ⟨by rfl, ?_⟩) (by assumption) ?_
  · (intro w hSw; (try dsimp only at hSw); obtain ⟨hr, hg⟩ := hSw;  go_simp)
  (try simp only [Act.put, List.getElem_toArray, List.getElem_cons_succ, List.getElem_cons_zero, List.setIfInBounds_toArray, List.set_cons_zero, List.set_cons_succ])
  refine wpAnyH_take (i := 6) (v := .int .i64 x1) rfl (by kernel_rfl) (by kernel_rfl) (by kernel_rfl) (fun _ _ _ h => h) (Or.inl ⟨by rfl, ?_⟩) (by assumption) ?_
  · (intro w hSw; (try dsimp only at hSw); obtain ⟨hr, hg⟩ := hSw; have hc := hg.cellAt 1 _ rfl; go_simp)
  (try simp only [Act.put, List.getElem_toArray, List.getElem_cons_succ, List.getElem_cons_zero, List.setIfInBounds_toArray, List.set_cons_zero, List.set_cons_succ])
  refine wpAnyH_take (i := 7) (v := .slice (some ⟨g, 0, none⟩) 5 5) rfl (by kernel_rfl) (by kernel_rfl) (by kernel_rfl) (fun _ _ _ h => h) (Or.inl ⟨by rfl, ?_⟩) (by assumption) ?_
  · (intro w hSw; (try dsimp only at hSw); obtain ⟨hr, hg⟩ := hSw;  go_simp)
  (try simp only [Act.put, List.getElem_toArray, List.getElem_cons_succ, List.getElem_cons_zero, List.setIfInBounds_toArray, List.set_cons_zero, List.set_cons_succ])
  refine wpAnyH_take (i := 8) (v := .pointer (some ⟨g, 2, none⟩)) rfl (by kernel_rfl) (by kernel_rfl) (by kernel_rfl) (fun _ _ _ h => h) (Or.inl ⟨by rfl, ?_⟩) (by assumption) ?_
  · (intro w hSw; (try dsimp only at hSw); obtain ⟨hr, hg⟩ := hSw;  go_simp)
  (try simp only [Act.put, List.getElem_toArray, List.getElem_cons_succ, List.getElem_cons_zero, List.setIfInBounds_toArray, List.set_cons_zero, List.set_cons_succ])
  refine wpAnyH_take (i := 9) (v := .int .i64 x2) rfl (by kernel_rfl) (by kernel_rfl) (by kernel_rfl) (fun _ _ _ h => h) (Or.inl ⟨by rfl, ?_⟩) (by assumption) ?_
  · (intro w hSw; (try dsimp only at hSw); obtain ⟨hr, hg⟩ := hSw; have hc := hg.cellAt 2 _ rfl; go_simp)
  (try simp only [Act.put, List.getElem_toArray, List.getElem_cons_succ, List.getElem_cons_zero, List.setIfInBounds_toArray, List.set_cons_zero, List.set_cons_succ])
  refine wpAnyH_take (i := 10) (v := .slice (some ⟨g, 0, none⟩) 5 5) rfl (by kernel_rfl) (by kernel_rfl) (by kernel_rfl) (fun _ _ _ h => h) (Or.inl ⟨by rfl, ?_⟩) (by assumption) ?_
  · (intro w hSw; (try dsimp only at hSw); obtain ⟨hr, hg⟩ := hSw;  go_simp)
  (try simp only [Act.put, List.getElem_toArray, List.getElem_cons_succ, List.getElem_cons_zero, List.setIfInBounds_toArray, List.set_cons_zero, List.set_cons_succ])
  refine wpAnyH_take (i := 11) (v := .pointer (some ⟨g, 3, none⟩)) rfl (by kernel_rfl) (by kernel_rfl) (by kernel_rfl) (fun _ _ _ h => h) (Or.inl ⟨by rfl, ?_⟩) (by assumption) ?_
  · (intro w hSw; (try dsimp only at hSw); obtain ⟨hr, hg⟩ := hSw;  go_simp)
  (try simp only [Act.put, List.getElem_toArray, List.getElem_cons_succ, List.getElem_cons_zero, List.setIfInBounds_toArray, List.set_cons_zero, List.set_cons_succ])
  refine wpAnyH_take (i := 12) (v := .int .i64 x3) rfl (by kernel_rfl) (by kernel_rfl) (by kernel_rfl) (fun _ _ _ h => h) (Or.inl ⟨by rfl, ?_⟩) (by assumption) ?_
  · (intro w hSw; (try dsimp only at hSw); obtain ⟨hr, hg⟩ := hSw; have hc := hg.cellAt 3 _ rfl; go_simp)
  (try simp only [Act.put, List.getElem_toArray, List.getElem_cons_succ, List.getElem_cons_zero, List.setIfInBounds_toArray, List.set_cons_zero, List.set_cons_succ])
  refine wpAnyH_take (i := 13) (v := .agg #[.int .i64 x2, .int .i64 x3]) rfl (by kernel_rfl) (by kernel_rfl) (by kernel_rfl) (fun _ _ _ h => h) (yieldsIf_build (by rfl) _ _ rfl #[.int .i64 x2, .int .i64 x3] (by kernel_rfl)) (by assumption) ?_
  (try simp only [Act.put, List.getElem_toArray, List.getElem_cons_succ, List.getElem_cons_zero, List.setIfInBounds_toArray, List.set_cons_zero, List.set_cons_succ])
  refine wpAnyH_take (i := 14) (v := .slice (some ⟨g, 0, none⟩) 5 5) rfl (by kernel_rfl) (by kernel_rfl) (by kernel_rfl) (fun _ _ _ h => h) (Or.inl ⟨by rfl, ?_⟩) (by assumption) ?_
  · (intro w hSw; (try dsimp only at hSw); obtain ⟨hr, hg⟩ := hSw;  go_simp)
  (try simp only [Act.put, List.getElem_toArray, List.getElem_cons_succ, List.getElem_cons_zero, List.setIfInBounds_toArray, List.set_cons_zero, List.set_cons_succ])
  refine wpAnyH_take (i := 15) (v := .pointer (some ⟨g, 4, none⟩)) rfl (by kernel_rfl) (by kernel_rfl) (by kernel_rfl) (fun _ _ _ h => h) (Or.inl ⟨by rfl, ?_⟩) (by assumption) ?_
  · (intro w hSw; (try dsimp only at hSw); obtain ⟨hr, hg⟩ := hSw;  go_simp)
  (try simp only [Act.put, List.getElem_toArray, List.getElem_cons_succ, List.getElem_cons_zero, List.setIfInBounds_toArray, List.set_cons_zero, List.set_cons_succ])
  refine wpAnyH_take (i := 16) (v := .int .i64 x4) rfl (by kernel_rfl) (by kernel_rfl) (by kernel_rfl) (fun _ _ _ h => h) (Or.inl ⟨by rfl, ?_⟩) (by assumption) ?_
  · (intro w hSw; (try dsimp only at hSw); obtain ⟨hr, hg⟩ := hSw; have hc := hg.cellAt 4 _ rfl; go_simp)
  (try simp only [Act.put, List.getElem_toArray, List.getElem_cons_succ, List.getElem_cons_zero, List.setIfInBounds_toArray, List.set_cons_zero, List.set_cons_succ])
  refine wpAnyH_take (i := 17) (v := .slice va vn vc) rfl (by kernel_rfl) (by kernel_rfl) (by kernel_rfl) (fun _ _ _ h => h) (Or.inl ⟨by rfl, ?_⟩) (by assumption) ?_
  · (intro w hSw; (try dsimp only at hSw); obtain ⟨hr, hg⟩ := hSw;  go_simp)
  (try simp only [Act.put, List.getElem_toArray, List.getElem_cons_succ, List.getElem_cons_zero, List.setIfInBounds_toArray, List.set_cons_zero, List.set_cons_succ])
  refine wpAnyH_take (i := 18) (v := .int .i64 st) rfl (by kernel_rfl) (by kernel_rfl) (by kernel_rfl) (fun _ _ _ h => h) (Or.inl ⟨by rfl, ?_⟩) (by assumption) ?_
  · (intro w hSw; (try dsimp only at hSw); obtain ⟨hr, hg⟩ := hSw;  go_simp)
  (try simp only [Act.put, List.getElem_toArray, List.getElem_cons_succ, List.getElem_cons_zero, List.setIfInBounds_toArray, List.set_cons_zero, List.set_cons_succ])
  refine wpAnyH_take (i := 19) (v := .agg #[.int .i64 x0, .int .i64 x1, .int .i64 x2, .int .i64 x3, .int .i64 x4, .slice va vn vc, .int .i64 st]) rfl (by kernel_rfl) (by kernel_rfl) (by kernel_rfl) (fun _ _ _ h => h) (yieldsIf_build (by rfl) _ _ rfl #[.int .i64 x0, .int .i64 x1, .int .i64 x2, .int .i64 x3, .int .i64 x4, .slice va vn vc, .int .i64 st] (by kernel_rfl)) (by assumption) ?_
  (try simp only [Act.put, List.getElem_toArray, List.getElem_cons_succ, List.getElem_cons_zero, List.setIfInBounds_toArray, List.set_cons_zero, List.set_cons_succ])
  refine wpAnyH_ready (rs := [20]) (by kernel_rfl) (by simp) ?_
  refine AllReadyH.cons rfl (fun K hK => ?_) AllReadyH.nil
  refine storeRow_step rfl 102 (.tmp 2) (.tmp 22) rfl (w.heap.size + 1) #[.slice a n c, .int .i64 P3, .int .i64 F3] rfl rfl 102 _ dy sizeRead rfl (by simp [Value.oneCell']) ?_
  refine hK.out _ _ ⟨dr.other (by omega), dg.other (by omega)⟩ (fun hHeld => ?_)
  clear hK K
  (try simp only [Act.put, List.getElem_toArray, List.getElem_cons_succ, List.getElem_cons_zero, List.setIfInBounds_toArray, List.set_cons_zero, List.set_cons_succ])
  refine wpAnyH_ready (rs := [21]) (by kernel_rfl) (by simp) ?_
  refine AllReadyH.cons rfl (fun K hK => ?_) AllReadyH.nil
  refine storeRow_step rfl 30 (.tmp 3) (.tmp 41) rfl (w.heap.size + 2) #[.int .i64 x0, .int .i64 x1, .int .i64 x2, .int .i64 x3, .int .i64 x4, .slice va vn vc, .int .i64 st] rfl rfl 30 _ (dz.other (by omega)) sizeTask rfl (by simp [Value.oneCell']) ?_
  refine hK.out _ _ ⟨(dr.other (by omega)).other (by omega), (dg.other (by omega)).other (by omega)⟩ (fun hHeld => ?_)
  clear hK K
  (try simp only [Act.put, List.getElem_toArray, List.getElem_cons_succ, List.getElem_cons_zero, List.setIfInBounds_toArray, List.set_cons_zero, List.set_cons_succ])
  refine wpAnyH_done (by kernel_rfl) ?_ _
  clear hHeld
  go_wp2_with fail
  refine bodyPost_ret (results_cells2 rfl rfl rfl (((dy.row _).other (by omega)).loadVar Try.underlying102 rfl sizeRead) (((dz.other (by omega)).row #[.int .i64 x0, .int .i64 x1, .int .i64 x2, .int .i64 x3, .int .i64 x4, .slice va vn vc, .int .i64 st]).loadVar Try.underlying30 rfl sizeTask)) rfl ?_
  rw [EQ.out]
  refine ⟨⟨x0, x1, x2, x3, x4, va, vn, vc, st, LL⟩, rfl, fun h => ?_, setRow_below (setRow_below db (by omega)) (by omega)⟩
  have hf := EE.out h
  have e := hve.out hf
  subst e
  exact ⟨⟨rfl, rfl, rfl, rfl, rfl, rfl, rfl, rfl⟩, (((dw.out hf).row (by omega) _).row (by omega) _).weaken (by omega)⟩
set_option maxRecDepth 100000 in
set_option maxHeartbeats 8000000 in
theorem dalease_any (a : Option Addr) (n c : Nat) (l : List Int) (A E : Int) (w : World) (hl : HoldsB w a n c l) (h0 : 0 ≤ A) (h1 : A ≤ n) :
    Calls Try.prog 93 #[.agg #[.slice a n c, .int .i64 A, .int .i64 E]] w fun e w' => ∃ y : Le, e = .returned (.tuple #[.agg #[.slice a n c, .int .i64 (rdL l A E).2.1, .int .i64 (rdL l A E).2.2], .agg y.cs.toArray]) ∧ ((rdL l A E).2.2 = 0 → LeSame (rdL l A E).1 y ∧ OwnN w.heap.size w' (.slice y.sa y.sl y.sc) y.sl y.co) ∧ Below w.heap.size w w' := by
  have HL := hid hl
  have hlen := hl.1
  have hnm := hl.2.1
  clear hl
  have EQ : Hid (rdL l A E = (⟨lsV (tkI l) A E 0, lsV (tkI l) A E 1, lsV (tkI l) A E 2, none, liC (tkI l) l (lsS (tkI l) A E 3).1 (lsS (tkI l) A E 3).2, 0, lsV (tkI l) (liF (tkI l) l (lsS (tkI l) A E 3).1 (lsS (tkI l) A E 3).2).1 (liF (tkI l) l (lsS (tkI l) A E 3).1 (lsS (tkI l) A E 3).2).2 0, lsV (tkI l) (liF (tkI l) l (lsS (tkI l) A E 3).1 (lsS (tkI l) A E 3).2).1 (liF (tkI l) l (lsS (tkI l) A E 3).1 (lsS (tkI l) A E 3).2).2 1, lsV (tkI l) (liF (tkI l) l (lsS (tkI l) A E 3).1 (lsS (tkI l) A E 3).2).1 (liF (tkI l) l (lsS (tkI l) A E 3).1 (lsS (tkI l) A E 3).2).2 2, ((upT l (lsS (tkI l) (liF (tkI l) l (lsS (tkI l) A E 3).1 (lsS (tkI l) A E 3).2).1 (liF (tkI l) l (lsS (tkI l) A E 3).1 (lsS (tkI l) A E 3).2).2 3).1 (lsS (tkI l) (liF (tkI l) l (lsS (tkI l) A E 3).1 (lsS (tkI l) A E 3).2).1 (liF (tkI l) l (lsS (tkI l) A E 3).1 (lsS (tkI l) A E 3).2).2 3).2 1 4).1 == 1), liL (tkI l) l (lsS (tkI l) A E 3).1 (lsS (tkI l) A E 3).2⟩, (upT l (lsS (tkI l) (liF (tkI l) l (lsS (tkI l) A E 3).1 (lsS (tkI l) A E 3).2).1 (liF (tkI l) l (lsS (tkI l) A E 3).1 (lsS (tkI l) A E 3).2).2 3).1 (lsS (tkI l) (liF (tkI l) l (lsS (tkI l) A E 3).1 (lsS (tkI l) A E 3).2).1 (liF (tkI l) l (lsS (tkI l) A E 3).1 (lsS (tkI l) A E 3).2).2 3).2 1 4).2)) := by unfold Hid rdL rlF rlN rlB rlC rlL; simp only [tkc_ls]
  have a3 := lsS_at (pe := tkI l) (n := n) (E := E) (fun A E h0 h1 => by have := tkI_at l A E h0 (by omega); omega) h0 h1 3
  have aB := liF_at (pe := tkI l) (l := l) (E := (lsS (tkI l) A E 3).2) (fun A E h0 h1 => tkI_at l A E h0 h1) a3.1 (by omega)
  have aS := lsS_at (pe := tkI l) (n := n) (E := (liF (tkI l) l (lsS (tkI l) A E 3).1 (lsS (tkI l) A E 3).2).2) (fun A E h0 h1 => by have := tkI_at l A E h0 (by omega); omega) aB.1 (by omega) 3
  have N1 := hid (fun W (H : HoldsB W a n c l) => dnums3_any a n c l A E W H h0 h1)
  have N2 := hid (fun W (H : HoldsB W a n c l) => dlist_any a n c l (lsS (tkI l) A E 3).1 (lsS (tkI l) A E 3).2 W H a3.1 a3.2)
  have N3 := hid (fun W (H : HoldsB W a n c l) => dnums3_any a n c l (liF (tkI l) l (lsS (tkI l) A E 3).1 (lsS (tkI l) A E 3).2).1 (liF (tkI l) l (lsS (tkI l) A E 3).1 (lsS (tkI l) A E 3).2).2 W H aB.1 (by omega))
  have N4 := hid (fun W (H : HoldsB W a n c l) => dupto_any a n c l (lsS (tkI l) (liF (tkI l) l (lsS (tkI l) A E 3).1 (lsS (tkI l) A E 3).2).1 (liF (tkI l) l (lsS (tkI l) A E 3).1 (lsS (tkI l) A E 3).2).2 3).1 (lsS (tkI l) (liF (tkI l) l (lsS (tkI l) A E 3).1 (lsS (tkI l) A E 3).2).1 (liF (tkI l) l (lsS (tkI l) A E 3).1 (lsS (tkI l) A E 3).2).2 3).2 1 W H ⟨by omega, by omega⟩ (by omega) (by omega))
  have EE := hid (fun (h : (upT l (lsS (tkI l) (liF (tkI l) l (lsS (tkI l) A E 3).1 (lsS (tkI l) A E 3).2).1 (liF (tkI l) l (lsS (tkI l) A E 3).1 (lsS (tkI l) A E 3).2).2 3).1 (lsS (tkI l) (liF (tkI l) l (lsS (tkI l) A E 3).1 (lsS (tkI l) A E 3).2).1 (liF (tkI l) l (lsS (tkI l) A E 3).1 (lsS (tkI l) A E 3).2).2 3).2 1 4).2.2 = 0) => lsS_err (l := l) 3 (upT_err h))
  clear a3 aB aS
  generalize lsV (tkI l) A E 0 = x0 at *
  generalize lsV (tkI l) A E 1 = x1 at *
  generalize lsV (tkI l) A E 2 = x2 at *
  generalize liL (tkI l) l (lsS (tkI l) A E 3).1 (lsS (tkI l) A E 3).2 = LL at *
  generalize liC (tkI l) l (lsS (tkI l) A E 3).1 (lsS (tkI l) A E 3).2 = NC at *
  generalize hli : liF (tkI l) l (lsS (tkI l) A E 3).1 (lsS (tkI l) A E 3).2 = S2 at *
  clear hli
  generalize lsS (tkI l) A E 3 = S1 at *
  obtain ⟨P1, F1⟩ := S1
  obtain ⟨P2, F2⟩ := S2
  simp only at EQ N1 N2 N3 N4 EE
  generalize lsV (tkI l) P2 F2 0 = z0 at *
  generalize lsV (tkI l) P2 F2 1 = z1 at *
  generalize lsV (tkI l) P2 F2 2 = z2 at *
  generalize hs3 : lsS (tkI l) P2 F2 3 = S3 at *
  clear hs3
  obtain ⟨P3, F3⟩ := S3
  simp only at EQ N3 N4 EE
  generalize hu : upT l P3 F3 1 4 = S4 at *
  clear hu
  obtain ⟨u4, P4, F4⟩ := S4
  simp only at EQ N4 EE
  go_enter Try.func93, Try.ntmps93
  go_upto_region 1 with fail
  have B := hid ((((Below.refl w.heap.size w).alloc (Nat.le_refl _) (.cells #[.slice a n c, .int .i64 A, .int .i64 E] 102)).alloc (by simp) (.cells #[.slice none 0 0, .int .i64 0, .int .i64 0] 102)).alloc (by simp; omega) (.cells #[.int .i64 0, .int .i64 0, .int .i64 0, .slice none 0 0, .int .i64 0, .int .i64 0, .int .i64 0, .bool false] 138))
  have X := hid (((Blk.alloc w #[.slice a n c, .int .i64 A, .int .i64 E] (102)).below ((Below.refl _ _).alloc (Nat.le_refl _) (.cells #[.slice none 0 0, .int .i64 0, .int .i64 0] 102))).below ((Below.refl _ _).alloc (Nat.le_refl _) (.cells #[.int .i64 0, .int .i64 0, .int .i64 0, .slice none 0 0, .int .i64 0, .int .i64 0, .int .i64 0, .bool false] 138)))
  have Y := hid ((Blk.alloc (w.alloc (.cells #[.slice a n c, .int .i64 A, .int .i64 E] 102)) #[.slice none 0 0, .int .i64 0, .int .i64 0] (102)).below ((Below.refl _ _).alloc (Nat.le_refl _) (.cells #[.int .i64 0, .int .i64 0, .int .i64 0, .slice none 0 0, .int .i64 0, .int .i64 0, .int .i64 0, .bool false] 138)))
  have ZB := hid (Blk.alloc ((w.alloc (.cells #[.slice a n c, .int .i64 A, .int .i64 E] 102)).alloc (.cells #[.slice none 0 0, .int .i64 0, .int .i64 0] 102)) #[.int .i64 0, .int .i64 0, .int .i64 0, .slice none 0 0, .int .i64 0, .int .i64 0, .int .i64 0, .bool false] (138))
  have s : Hid (w.heap.size + 3 ≤ (((w.alloc (.cells #[.slice a n c, .int .i64 A, .int .i64 E] 102)).alloc (.cells #[.slice none 0 0, .int .i64 0, .int .i64 0] 102)).alloc (.cells #[.int .i64 0, .int .i64 0, .int .i64 0, .slice none 0 0, .int .i64 0, .int .i64 0, .int .i64 0, .bool false] 138)).heap.size) := by unfold Hid; simp
  rw [World.size_alloc] at Y
  rw [World.size_alloc, World.size_alloc] at ZB
  generalize ((w.alloc (.cells #[.slice a n c, .int .i64 A, .int .i64 E] 102)).alloc (.cells #[.slice none 0 0, .int .i64 0, .int .i64 0] 102)).alloc (.cells #[.int .i64 0, .int .i64 0, .int .i64 0, .slice none 0 0, .int .i64 0, .int .i64 0, .int .i64 0, .bool false] 138) = W0 at *
  have LD := X.out.loadAt Try.underlying102 rfl sizeRead
  have CC := hid (N1.out W0 (HL.out.below B.out))
  go_wp2_with (refine wpList_load_at 102 rfl (.tmp 1) rfl _ _ rfl _ LD ?_)
  with_reducible refine CC.out.mono ?_
  rintro e w1 ⟨g, rfl, hg, hb, b1⟩
  have hg3 : w.heap.size + 3 ≤ g := by have := s.out; omega
  have hss := s.out
  have BX := X.out.below b1
  unfold Blk at BX
  replace X := hid ((X.out.below b1).row #[.slice a n c, .int .i64 P1, .int .i64 F1])
  replace Y := hid ((Y.out.below b1).other (ds := #[.slice a n c, .int .i64 P1, .int .i64 F1]) (show w.heap.size + 1 ≠ w.heap.size by omega))
  replace ZB := hid ((ZB.out.below b1).other (ds := #[.slice a n c, .int .i64 P1, .int .i64 F1]) (show w.heap.size + 1 + 1 ≠ w.heap.size by omega))
  have G := hid (hb.other (q := w.heap.size) (ds := #[.slice a n c, .int .i64 P1, .int .i64 F1]) (by omega))
  replace B := hid (setRow_below (q := w.heap.size) (cs := #[.slice a n c, .int .i64 P1, .int .i64 F1]) (B.out.trans (b1.mono B.out.size)) (Nat.le_refl _))
  replace s : Hid (w.heap.size + 3 ≤ (w1.setRow w.heap.size #[.slice a n c, .int .i64 P1, .int .i64 F1]).heap.size) := by unfold Hid; have := b1.size; simp; omega
  clear CC LD b1 hss hb
  go_upto_region 2 with (refine wpList_store_row rfl 102 (.tmp 1) (.tmp 11) rfl w.heap.size #[.slice a n c, .int .i64 P1, .int .i64 F1] rfl rfl 102 _ BX sizeRead rfl (by simp [Value.oneCell']) ?_)
  clear BX
  generalize w1.setRow w.heap.size #[.slice a n c, .int .i64 P1, .int .i64 F1] = W1 at *
  have LD := X.out.loadAt Try.underlying102 rfl sizeRead
  have CC := hid (N2.out W1 (HL.out.below B.out))
  go_wp2_with (refine wpList_load_at 102 rfl (.tmp 1) rfl _ _ rfl _ LD ?_)
  with_reducible refine CC.out.mono ?_
  rintro e w1 ⟨v, rfl, hv, hv2, b1⟩
  obtain ⟨va, vn, vc, rfl, hvg⟩ : ∃ va vn vc, v = .slice va vn vc ∧ (F2 = 0 → vn = NC ∧ OwnN W1.heap.size w1 (.slice va vn vc) vn LL) := by
    by_cases hF : F2 = 0
    · have h := hv hF
      obtain ⟨va, vc, rfl⟩ := h.form
      exact ⟨va, NC, vc, rfl, fun _ => ⟨rfl, h⟩⟩
    · exact ⟨none, 0, 0, hv2 hF, fun h => absurd h hF⟩
  have hve := hid (fun h => (hvg h).1)
  have hvo := fun h => (hvg h).2
  clear hv hv2 hvg
  have hss := s.out
  have BX := X.out.below b1
  unfold Blk at BX
  replace X := hid ((X.out.below b1).row #[.slice a n c, .int .i64 P2, .int .i64 F2])
  replace Y := hid ((Y.out.below b1).other (ds := #[.slice a n c, .int .i64 P2, .int .i64 F2]) (show w.heap.size + 1 ≠ w.heap.size by omega))
  replace ZB := hid ((ZB.out.below b1).other (ds := #[.slice a n c, .int .i64 P2, .int .i64 F2]) (show w.heap.size + 1 + 1 ≠ w.heap.size by omega))
  replace G := hid ((G.out.below b1).other (q := w.heap.size) (ds := #[.slice a n c, .int .i64 P2, .int .i64 F2]) (by omega))
  have OW := hid (fun z => ((hvo z).weaken (b' := w.heap.size + 3) (by omega)).row (q := w.heap.size) (by omega) #[.slice a n c, .int .i64 P2, .int .i64 F2])
  replace B := hid (setRow_below (q := w.heap.size) (cs := #[.slice a n c, .int .i64 P2, .int .i64 F2]) (B.out.trans (b1.mono B.out.size)) (Nat.le_refl _))
  replace s : Hid (w.heap.size + 3 ≤ (w1.setRow w.heap.size #[.slice a n c, .int .i64 P2, .int .i64 F2]).heap.size) := by unfold Hid; have := b1.size; simp; omega
  clear CC LD b1 hss hvo
  go_upto_region 3 with (refine wpList_store_row rfl 102 (.tmp 1) (.tmp 16) rfl w.heap.size #[.slice a n c, .int .i64 P2, .int .i64 F2] rfl rfl 102 _ BX sizeRead rfl (by simp [Value.oneCell']) ?_)
  clear BX
  generalize w1.setRow w.heap.size #[.slice a n c, .int .i64 P2, .int .i64 F2] = W2 at *
  have LD := X.out.loadAt Try.underlying102 rfl sizeRead
  have CC := hid (N3.out W2 (HL.out.below B.out))
  go_wp2_with (refine wpList_load_at 102 rfl (.tmp 1) rfl _ _ rfl _ LD ?_)
  with_reducible refine CC.out.mono ?_
  rintro e w1 ⟨g', rfl, hg', hb', b1⟩
  have hg4 : w.heap.size + 3 ≤ g' := by have := s.out; omega
  have hss := s.out
  have BX := X.out.below b1
  unfold Blk at BX
  replace X := hid ((X.out.below b1).row #[.slice a n c, .int .i64 P3, .int .i64 F3])
  replace Y := hid ((Y.out.below b1).other (ds := #[.slice a n c, .int .i64 P3, .int .i64 F3]) (show w.heap.size + 1 ≠ w.heap.size by omega))
  replace ZB := hid ((ZB.out.below b1).other (ds := #[.slice a n c, .int .i64 P3, .int .i64 F3]) (show w.heap.size + 1 + 1 ≠ w.heap.size by omega))
  replace G := hid ((G.out.below b1).other (q := w.heap.size) (ds := #[.slice a n c, .int .i64 P3, .int .i64 F3]) (by omega))
  replace OW := hid (fun z => ((OW.out z).below b1).row (q := w.heap.size) (by omega) #[.slice a n c, .int .i64 P3, .int .i64 F3])
  have G2 := hid (hb'.other (q := w.heap.size) (ds := #[.slice a n c, .int .i64 P3, .int .i64 F3]) (by omega))
  replace B := hid (setRow_below (q := w.heap.size) (cs := #[.slice a n c, .int .i64 P3, .int .i64 F3]) (B.out.trans (b1.mono B.out.size)) (Nat.le_refl _))
  replace s : Hid (w.heap.size + 3 ≤ (w1.setRow w.heap.size #[.slice a n c, .int .i64 P3, .int .i64 F3]).heap.size) := by unfold Hid; have := b1.size; simp; omega
  clear CC LD b1 hss hb'
  go_upto_region 4 with (refine wpList_store_row rfl 102 (.tmp 1) (.tmp 21) rfl w.heap.size #[.slice a n c, .int .i64 P3, .int .i64 F3] rfl rfl 102 _ BX sizeRead rfl (by simp [Value.oneCell']) ?_)
  clear BX
  generalize w1.setRow w.heap.size #[.slice a n c, .int .i64 P3, .int .i64 F3] = W3 at *
  have LD := X.out.loadAt Try.underlying102 rfl sizeRead
  have CC := hid (N4.out W3 (HL.out.below B.out))
  go_wp2_with (refine wpList_load_at 102 rfl (.tmp 1) rfl _ _ rfl _ LD ?_)
  with_reducible refine CC.out.mono ?_
  rintro e w1 ⟨rfl, b1⟩
  have hss := s.out
  have BX := X.out.below b1
  unfold Blk at BX
  replace X := hid ((X.out.below b1).row #[.slice a n c, .int .i64 P4, .int .i64 F4])
  replace Y := hid ((Y.out.below b1).other (ds := #[.slice a n c, .int .i64 P4, .int .i64 F4]) (show w.heap.size + 1 ≠ w.heap.size by omega))
  replace ZB := hid ((ZB.out.below b1).other (ds := #[.slice a n c, .int .i64 P4, .int .i64 F4]) (show w.heap.size + 1 + 1 ≠ w.heap.size by omega))
  replace G := hid ((G.out.below b1).other (q := w.heap.size) (ds := #[.slice a n c, .int .i64 P4, .int .i64 F4]) (by omega))
  replace OW := hid (fun z => ((OW.out z).below b1).row (q := w.heap.size) (by omega) #[.slice a n c, .int .i64 P4, .int .i64 F4])
  replace G2 := hid ((G2.out.below b1).other (q := w.heap.size) (ds := #[.slice a n c, .int .i64 P4, .int .i64 F4]) (by omega))
  replace B := hid (setRow_below (q := w.heap.size) (cs := #[.slice a n c, .int .i64 P4, .int .i64 F4]) (B.out.trans (b1.mono B.out.size)) (Nat.le_refl _))
  replace s : Hid (w.heap.size + 3 ≤ (w1.setRow w.heap.size #[.slice a n c, .int .i64 P4, .int .i64 F4]).heap.size) := by unfold Hid; have := b1.size; simp; omega
  clear CC LD b1 hss
  go_upto_region 5 with (refine wpList_store_row rfl 102 (.tmp 1) (.tmp 26) rfl w.heap.size #[.slice a n c, .int .i64 P4, .int .i64 F4] rfl rfl 102 _ BX sizeRead rfl (by simp [Value.oneCell']) ?_)
  clear BX
  generalize w1.setRow w.heap.size #[.slice a n c, .int .i64 P4, .int .i64 F4] = W4 at *
  have dr : Blk W4.drew w.heap.size 102 #[.slice a n c, .int .i64 P4, .int .i64 F4] := X.out
  have dy : Blk W4.drew (w.heap.size + 1) 102 #[.slice none 0 0, .int .i64 0, .int .i64 0] := Y.out
  have dz : Blk W4.drew (w.heap.size + 2) 138 #[.int .i64 0, .int .i64 0, .int .i64 0, .slice none 0 0, .int .i64 0, .int .i64 0, .int .i64 0, .bool false] := ZB.out
  have dg : Blk W4.drew g 2 #[.int .i64 x0, .int .i64 x1, .int .i64 x2] := G.out
  have dg2 : Blk W4.drew g' 2 #[.int .i64 z0, .int .i64 z1, .int .i64 z2] := G2.out
  have dw := hid (fun z => (show OwnN (w.heap.size + 3) W4.drew _ _ _ from OW.out z))
  have db : Below w.heap.size w W4.drew := B.out.drew
  clear X Y ZB B s OW G G2
  refine wp_region_held_drew (S := fun W => Blk W w.heap.size 102 #[.slice a n c, .int .i64 P4, .int .i64 F4] ∧ Blk W g 2 #[.int .i64 x0, .int .i64 x1, .int .i64 x2] ∧ Blk W g' 2 #[.int .i64 z0, .int .i64 z1, .int .i64 z2]) (by kernel_rfl) ⟨dr, dg, dg2⟩ (fun hHeld => ?_)
  generalize W4.drew = WD at *
  refine wpAnyH_take (i := 0) (v := .agg #[.slice a n c, .int .i64 P4, .int .i64 F4]) rfl (by kernel_rfl) (by kernel_rfl) (by kernel_rfl) (fun _ _ _ h => h) (yieldsIf_load_mid (by rfl) 102 (.tmp 1) rfl w.heap.size 0 rfl (#[.slice a n c, .int .i64 P4, .int .i64 F4] : Array Value).toList _ (fun W hW => hW.1.range) Try.underlying102 rfl sizeRead) (by assumption) ?_
  (try simp only [Act.put, List.getElem_toArray, List.getElem_cons_succ, List.getElem_cons_zero, List.setIfInBounds_toArray, List.set_cons_zero, List.set_cons_succ])
  refine wpAnyH_take (i := 1) (v := .slice (some ⟨g, 0, none⟩) 3 3) rfl (by kernel_rfl) (by kernel_rfl) (by kernel_rfl) (fun _ _ _ h => h) (Or.inl ⟨by rfl, ?_⟩) (by assumption) ?_
  · (intro w hSw; (try dsimp only at hSw); obtain ⟨hr, hg, hg2⟩ := hSw;  go_simp)
  (try simp only [Act.put, List.getElem_toArray, List.getElem_cons_succ, List.getElem_cons_zero, List.setIfInBounds_toArray, List.set_cons_zero, List.set_cons_succ])
  refine wpAnyH_take (i := 2) (v := .pointer (some ⟨g, 0, none⟩)) rfl (by kernel_rfl) (by kernel_rfl) (by kernel_rfl) (fun _ _ _ h => h) (Or.inl ⟨by rfl, ?_⟩) (by assumption) ?_
  · (intro w hSw; (try dsimp only at hSw); obtain ⟨hr, hg, hg2⟩ := hSw;  go_simp)
  (try simp only [Act.put, List.getElem_toArray, List.getElem_cons_succ, List.getElem_cons_zero, List.setIfInBounds_toArray, List.set_cons_zero, List.set_cons_succ])
  refine wpAnyH_take (i := 3) (v := .int .i64 x0) rfl (by kernel_rfl) (by kernel_rfl) (by kernel_rfl) (fun _ _ _ h => h) (Or.inl ⟨by rfl, ?_⟩) (by assumption) ?_
  · (intro w hSw; (try dsimp only at hSw); obtain ⟨hr, hg, hg2⟩ := hSw; have hc := hg.cellAt 0 _ rfl; go_simp)
  (try simp only [Act.put, List.getElem_toArray, List.getElem_cons_succ, List.getElem_cons_zero, List.setIfInBounds_toArray, List.set_cons_zero, List.set_cons_succ])
  refine wpAnyH_take (i := 4) (v := .slice (some ⟨g, 0, none⟩) 3 3) rfl (by kernel_rfl) (by kernel_rfl) (by kernel_rfl) (fun _ _ _ h => h) (Or.inl ⟨by rfl, ?_⟩) (by assumption) ?_
  · (intro w hSw; (try dsimp only at hSw); obtain ⟨hr, hg, hg2⟩ := hSw;  go_simp)
  (try simp only [Act.put, List.getElem_toArray, List.getElem_cons_succ, List.getElem_cons_zero, List.setIfInBounds_toArray, List.set_cons_zero, List.set_cons_succ])
  refine wpAnyH_take (i := 5) (v := .pointer (some ⟨g, 1, none⟩)) rfl (by kernel_rfl) (by kernel_rfl) (by kernel_rfl) (fun _ _ _ h => h) (Or.inl ⟨by rfl, ?_⟩) (by assumption) ?_
  · (intro w hSw; (try dsimp only at hSw); obtain ⟨hr, hg, hg2⟩ := hSw;  go_simp)
  (try simp only [Act.put, List.getElem_toArray, List.getElem_cons_succ, List.getElem_cons_zero, List.setIfInBounds_toArray, List.set_cons_zero, List.set_cons_succ])
  refine wpAnyH_take (i := 6) (v := .int .i64 x1) rfl (by kernel_rfl) (by kernel_rfl) (by kernel_rfl) (fun _ _ _ h => h) (Or.inl ⟨by rfl, ?_⟩) (by assumption) ?_
  · (intro w hSw; (try dsimp only at hSw); obtain ⟨hr, hg, hg2⟩ := hSw; have hc := hg.cellAt 1 _ rfl; go_simp)
  (try simp only [Act.put, List.getElem_toArray, List.getElem_cons_succ, List.getElem_cons_zero, List.setIfInBounds_toArray, List.set_cons_zero, List.set_cons_succ])
  refine wpAnyH_take (i := 7) (v := .slice (some ⟨g, 0, none⟩) 3 3) rfl (by kernel_rfl) (by kernel_rfl) (by kernel_rfl) (fun _ _ _ h => h) (Or.inl ⟨by rfl, ?_⟩) (by assumption) ?_
  · (intro w hSw; (try dsimp only at hSw); obtain ⟨hr, hg, hg2⟩ := hSw;  go_simp)
  (try simp only [Act.put, List.getElem_toArray, List.getElem_cons_succ, List.getElem_cons_zero, List.setIfInBounds_toArray, List.set_cons_zero, List.set_cons_succ])
  refine wpAnyH_take (i := 8) (v := .pointer (some ⟨g, 2, none⟩)) rfl (by kernel_rfl) (by kernel_rfl) (by kernel_rfl) (fun _ _ _ h => h) (Or.inl ⟨by rfl, ?_⟩) (by assumption) ?_
  · (intro w hSw; (try dsimp only at hSw); obtain ⟨hr, hg, hg2⟩ := hSw;  go_simp)
  (try simp only [Act.put, List.getElem_toArray, List.getElem_cons_succ, List.getElem_cons_zero, List.setIfInBounds_toArray, List.set_cons_zero, List.set_cons_succ])
  refine wpAnyH_take (i := 9) (v := .int .i64 x2) rfl (by kernel_rfl) (by kernel_rfl) (by kernel_rfl) (fun _ _ _ h => h) (Or.inl ⟨by rfl, ?_⟩) (by assumption) ?_
  · (intro w hSw; (try dsimp only at hSw); obtain ⟨hr, hg, hg2⟩ := hSw; have hc := hg.cellAt 2 _ rfl; go_simp)
  (try simp only [Act.put, List.getElem_toArray, List.getElem_cons_succ, List.getElem_cons_zero, List.setIfInBounds_toArray, List.set_cons_zero, List.set_cons_succ])
  refine wpAnyH_take (i := 10) (v := .slice va vn vc) rfl (by kernel_rfl) (by kernel_rfl) (by kernel_rfl) (fun _ _ _ h => h) (Or.inl ⟨by rfl, ?_⟩) (by assumption) ?_
  · (intro w hSw; (try dsimp only at hSw); obtain ⟨hr, hg, hg2⟩ := hSw;  go_simp)
  (try simp only [Act.put, List.getElem_toArray, List.getElem_cons_succ, List.getElem_cons_zero, List.setIfInBounds_toArray, List.set_cons_zero, List.set_cons_succ])
  refine wpAnyH_take (i := 11) (v := .slice (some ⟨g', 0, none⟩) 3 3) rfl (by kernel_rfl) (by kernel_rfl) (by kernel_rfl) (fun _ _ _ h => h) (Or.inl ⟨by rfl, ?_⟩) (by assumption) ?_
  · (intro w hSw; (try dsimp only at hSw); obtain ⟨hr, hg, hg2⟩ := hSw;  go_simp)
  (try simp only [Act.put, List.getElem_toArray, List.getElem_cons_succ, List.getElem_cons_zero, List.setIfInBounds_toArray, List.set_cons_zero, List.set_cons_succ])
  refine wpAnyH_take (i := 12) (v := .pointer (some ⟨g', 0, none⟩)) rfl (by kernel_rfl) (by kernel_rfl) (by kernel_rfl) (fun _ _ _ h => h) (Or.inl ⟨by rfl, ?_⟩) (by assumption) ?_
  · (intro w hSw; (try dsimp only at hSw); obtain ⟨hr, hg, hg2⟩ := hSw;  go_simp)
  (try simp only [Act.put, List.getElem_toArray, List.getElem_cons_succ, List.getElem_cons_zero, List.setIfInBounds_toArray, List.set_cons_zero, List.set_cons_succ])
  refine wpAnyH_take (i := 13) (v := .int .i64 z0) rfl (by kernel_rfl) (by kernel_rfl) (by kernel_rfl) (fun _ _ _ h => h) (Or.inl ⟨by rfl, ?_⟩) (by assumption) ?_
  · (intro w hSw; (try dsimp only at hSw); obtain ⟨hr, hg, hg2⟩ := hSw; have hc := hg2.cellAt 0 _ rfl; go_simp)
  (try simp only [Act.put, List.getElem_toArray, List.getElem_cons_succ, List.getElem_cons_zero, List.setIfInBounds_toArray, List.set_cons_zero, List.set_cons_succ])
  refine wpAnyH_take (i := 14) (v := .slice (some ⟨g', 0, none⟩) 3 3) rfl (by kernel_rfl) (by kernel_rfl) (by kernel_rfl) (fun _ _ _ h => h) (Or.inl ⟨by rfl, ?_⟩) (by assumption) ?_
  · (intro w hSw; (try dsimp only at hSw); obtain ⟨hr, hg, hg2⟩ := hSw;  go_simp)
  (try simp only [Act.put, List.getElem_toArray, List.getElem_cons_succ, List.getElem_cons_zero, List.setIfInBounds_toArray, List.set_cons_zero, List.set_cons_succ])
  refine wpAnyH_take (i := 15) (v := .pointer (some ⟨g', 1, none⟩)) rfl (by kernel_rfl) (by kernel_rfl) (by kernel_rfl) (fun _ _ _ h => h) (Or.inl ⟨by rfl, ?_⟩) (by assumption) ?_
  · (intro w hSw; (try dsimp only at hSw); obtain ⟨hr, hg, hg2⟩ := hSw;  go_simp)
  (try simp only [Act.put, List.getElem_toArray, List.getElem_cons_succ, List.getElem_cons_zero, List.setIfInBounds_toArray, List.set_cons_zero, List.set_cons_succ])
  refine wpAnyH_take (i := 16) (v := .int .i64 z1) rfl (by kernel_rfl) (by kernel_rfl) (by kernel_rfl) (fun _ _ _ h => h) (Or.inl ⟨by rfl, ?_⟩) (by assumption) ?_
  · (intro w hSw; (try dsimp only at hSw); obtain ⟨hr, hg, hg2⟩ := hSw; have hc := hg2.cellAt 1 _ rfl; go_simp)
  (try simp only [Act.put, List.getElem_toArray, List.getElem_cons_succ, List.getElem_cons_zero, List.setIfInBounds_toArray, List.set_cons_zero, List.set_cons_succ])
  refine wpAnyH_take (i := 17) (v := .slice (some ⟨g', 0, none⟩) 3 3) rfl (by kernel_rfl) (by kernel_rfl) (by kernel_rfl) (fun _ _ _ h => h) (Or.inl ⟨by rfl, ?_⟩) (by assumption) ?_
  · (intro w hSw; (try dsimp only at hSw); obtain ⟨hr, hg, hg2⟩ := hSw;  go_simp)
  (try simp only [Act.put, List.getElem_toArray, List.getElem_cons_succ, List.getElem_cons_zero, List.setIfInBounds_toArray, List.set_cons_zero, List.set_cons_succ])
  refine wpAnyH_take (i := 18) (v := .pointer (some ⟨g', 2, none⟩)) rfl (by kernel_rfl) (by kernel_rfl) (by kernel_rfl) (fun _ _ _ h => h) (Or.inl ⟨by rfl, ?_⟩) (by assumption) ?_
  · (intro w hSw; (try dsimp only at hSw); obtain ⟨hr, hg, hg2⟩ := hSw;  go_simp)
  (try simp only [Act.put, List.getElem_toArray, List.getElem_cons_succ, List.getElem_cons_zero, List.setIfInBounds_toArray, List.set_cons_zero, List.set_cons_succ])
  refine wpAnyH_take (i := 19) (v := .int .i64 z2) rfl (by kernel_rfl) (by kernel_rfl) (by kernel_rfl) (fun _ _ _ h => h) (Or.inl ⟨by rfl, ?_⟩) (by assumption) ?_
  · (intro w hSw; (try dsimp only at hSw); obtain ⟨hr, hg, hg2⟩ := hSw; have hc := hg2.cellAt 2 _ rfl; go_simp)
  (try simp only [Act.put, List.getElem_toArray, List.getElem_cons_succ, List.getElem_cons_zero, List.setIfInBounds_toArray, List.set_cons_zero, List.set_cons_succ])
  refine wpAnyH_take (i := 20) (v := .int .i64 u4) rfl (by kernel_rfl) (by kernel_rfl) (by kernel_rfl) (fun _ _ _ h => h) (Or.inl ⟨by rfl, ?_⟩) (by assumption) ?_
  · (intro w hSw; (try dsimp only at hSw); obtain ⟨hr, hg, hg2⟩ := hSw;  go_simp)
  (try simp only [Act.put, List.getElem_toArray, List.getElem_cons_succ, List.getElem_cons_zero, List.setIfInBounds_toArray, List.set_cons_zero, List.set_cons_succ])
  refine wpAnyH_take (i := 21) (v := .bool (u4 == 1)) rfl (by kernel_rfl) (by kernel_rfl) (by kernel_rfl) (fun _ _ _ h => h) (Or.inl ⟨by rfl, ?_⟩) (by assumption) ?_
  · (intro w hSw; (try dsimp only at hSw); obtain ⟨hr, hg, hg2⟩ := hSw;  go_simp)
  (try simp only [Act.put, List.getElem_toArray, List.getElem_cons_succ, List.getElem_cons_zero, List.setIfInBounds_toArray, List.set_cons_zero, List.set_cons_succ])
  refine wpAnyH_take (i := 22) (v := .agg #[.int .i64 x0, .int .i64 x1, .int .i64 x2, .slice va vn vc, .int .i64 z0, .int .i64 z1, .int .i64 z2, .bool (u4 == 1)]) rfl (by kernel_rfl) (by kernel_rfl) (by kernel_rfl) (fun _ _ _ h => h) (yieldsIf_build (by rfl) _ _ rfl #[.int .i64 x0, .int .i64 x1, .int .i64 x2, .slice va vn vc, .int .i64 z0, .int .i64 z1, .int .i64 z2, .bool (u4 == 1)] (by kernel_rfl)) (by assumption) ?_
  (try simp only [Act.put, List.getElem_toArray, List.getElem_cons_succ, List.getElem_cons_zero, List.setIfInBounds_toArray, List.set_cons_zero, List.set_cons_succ])
  refine wpAnyH_ready (rs := [23]) (by kernel_rfl) (by simp) ?_
  refine AllReadyH.cons rfl (fun K hK => ?_) AllReadyH.nil
  refine storeRow_step rfl 102 (.tmp 2) (.tmp 28) rfl (w.heap.size + 1) #[.slice a n c, .int .i64 P4, .int .i64 F4] rfl rfl 102 _ dy sizeRead rfl (by simp [Value.oneCell']) ?_
  refine hK.out _ _ ⟨dr.other (by omega), dg.other (by omega), dg2.other (by omega)⟩ (fun hHeld => ?_)
  clear hK K
  (try simp only [Act.put, List.getElem_toArray, List.getElem_cons_succ, List.getElem_cons_zero, List.setIfInBounds_toArray, List.set_cons_zero, List.set_cons_succ])
  refine wpAnyH_ready (rs := [24]) (by kernel_rfl) (by simp) ?_
  refine AllReadyH.cons rfl (fun K hK => ?_) AllReadyH.nil
  refine storeRow_step rfl 138 (.tmp 3) (.tmp 50) rfl (w.heap.size + 2) #[.int .i64 x0, .int .i64 x1, .int .i64 x2, .slice va vn vc, .int .i64 z0, .int .i64 z1, .int .i64 z2, .bool (u4 == 1)] rfl rfl 138 _ (dz.other (by omega)) sizeLease rfl (by simp [Value.oneCell']) ?_
  refine hK.out _ _ ⟨(dr.other (by omega)).other (by omega), (dg.other (by omega)).other (by omega), (dg2.other (by omega)).other (by omega)⟩ (fun hHeld => ?_)
  clear hK K
  (try simp only [Act.put, List.getElem_toArray, List.getElem_cons_succ, List.getElem_cons_zero, List.setIfInBounds_toArray, List.set_cons_zero, List.set_cons_succ])
  refine wpAnyH_done (by kernel_rfl) ?_ _
  clear hHeld
  go_wp2_with fail
  refine bodyPost_ret (results_cells2 rfl rfl rfl (((dy.row _).other (by omega)).loadVar Try.underlying102 rfl sizeRead) (((dz.other (by omega)).row #[.int .i64 x0, .int .i64 x1, .int .i64 x2, .slice va vn vc, .int .i64 z0, .int .i64 z1, .int .i64 z2, .bool (u4 == 1)]).loadVar Try.underlying138 rfl sizeLease)) rfl ?_
  rw [EQ.out]
  refine ⟨⟨x0, x1, x2, va, vn, vc, z0, z1, z2, (u4 == 1), LL⟩, rfl, fun h => ?_, setRow_below (setRow_below db (by omega)) (by omega)⟩
  have hf := EE.out h
  have e := hve.out hf
  subst e
  exact ⟨⟨rfl, rfl, rfl, rfl, rfl, rfl, rfl, rfl, rfl⟩, (((dw.out hf).row (by omega) _).row (by omega) _).weaken (by omega)⟩
end Go.Proofs.Ythkbddnkcljjpaa

namespace Go.Proofs.Ythkbddnkcljjpaa
open Go.RowKit Go.Deep Go.Maps
set_option linter.unusedVariables false
set_option linter.unusedSimpArgs false
theorem OwnE.rowN {α : Type} {e : TypeId} {k q : Nat} {enc : α → List Value} {base n : Nat} {l : List α} {v : Value} {w : World} (h : OwnE e k enc base w v n l) (cs : Array Value) (h1 : ∀ g, v.ownBlock = some g → g ≠ q) : OwnE e k enc base (w.setRow q cs) v n l := by
  obtain ⟨h0, h3, h4⟩ := h
  refine ⟨h0, h3, ?_⟩
  rcases h4 with h4 | ⟨g, cap, cur, hv, hg, hh, r⟩
  · exact .inl h4
  · exact .inr ⟨g, cap, cur, hv, hg, (setRow_other w q g cs (h1 g (by rw [hv]; rfl))).trans hh, r⟩
set_option maxRecDepth 100000 in
set_option maxHeartbeats 8000000 in
theorem dsome_any (a : Option Addr) (n c : Nat) (l : List Int) (A E : Int) (w : World) (hl : HoldsB w a n c l) (h0 : 0 ≤ A) (h1 : A ≤ n) :
    Calls Try.prog 61 #[.agg #[.slice a n c, .int .i64 A, .int .i64 E]] w fun e w' => ∃ v, e = .returned (.tuple #[.agg #[.slice a n c, .int .i64 (liF (rdL l) l A E).1, .int .i64 (liF (rdL l) l A E).2], v]) ∧ ((liF (rdL l) l A E).2 = 0 → ∃ ys, OwnE 138 8 Le.cs w.heap.size w' v (liC (rdL l) l A E) ys ∧ (∀ j (g : j < ys.length), LeSame (liV (rdL l) l A E j) ys[j]) ∧ ∀ y ∈ ys, OwnN w.heap.size w' (.slice y.sa y.sl y.sc) y.sl y.co) ∧ ((liF (rdL l) l A E).2 ≠ 0 → v = .slice none 0 0) ∧ Below w.heap.size w w' := by
  have HL := hid hl
  have hlen := hl.1
  have hnm := hl.2.1
  have hbb := hl.2.2.2.2.1
  have CB := hid (upT_bd l A E 1024 3 hbb (by omega))
  have AT := hid (upT_at l A E 1024 3 h0 (by omega))
  have AS := hid (fun k => lsS_at (pe := rdL l) (n := n) (E := (upT l A E 1024 3).2.2) (fun A E h0 h1 => by have := rdL_at l A E h0 (by omega); omega) AT.out.1 (by have := AT.out.2; omega) k)
  have NN : Hid (liC (rdL l) l A E = lsN (rdL l) (upT l A E 1024 3).2.1 (upT l A E 1024 3).2.2 (upT l A E 1024 3).1.toNat 0) := rfl
  have FF : Hid (liF (rdL l) l A E = if liC (rdL l) l A E < (upT l A E 1024 3).1.toNat then lsS (rdL l) (upT l A E 1024 3).2.1 (upT l A E 1024 3).2.2 (liC (rdL l) l A E + 1) else lsS (rdL l) (upT l A E 1024 3).2.1 (upT l A E 1024 3).2.2 (liC (rdL l) l A E)) := rfl
  have PV : Hid (∀ k, liV (rdL l) l A E k = lsV (rdL l) (upT l A E 1024 3).2.1 (upT l A E 1024 3).2.2 k) := fun k => rfl
  have TOT := hid (fun W (H : HoldsB W a n c l) => dtotal_any a n c l A E W H ⟨by omega, by omega⟩)
  clear hl
  generalize hli : liC (rdL l) l A E = N at *
  generalize liF (rdL l) l A E = FN at *
  generalize hup : upT l A E 1024 3 = U at *
  obtain ⟨cc, A0, E0⟩ := U
  simp only at CB AT AS NN FF PV TOT
  obtain ⟨C, rfl⟩ : ∃ C : Nat, cc = (C : Int) := ⟨cc.toNat, by have := CB.out.1; omega⟩
  have hC : C ≤ 1024 := by have := CB.out.2; omega
  have NL := hid (lsN_le (rdL l) A0 E0 C 0)
  have NY := hid (lsN_yes (rdL l) A0 E0 C 0)
  have NO := hid (lsN_no (rdL l) A0 E0 C 0)
  have FE0 : Hid (C = 0 → FN = (A0, E0)) := fun h => by
    subst h
    rw [FF.out, if_neg (by simp), NN.out]; rfl
  simp only [Int.toNat_natCast] at NN FF
  rw [← NN.out] at NL NY NO
  have hNC : N ≤ C := by have := NL.out.2; omega
  clear NN CB AT hup hli NL
  go_enter Try.func61, Try.ntmps61
  go_upto_region 1 with fail
  have B0 := hid (((Below.refl w.heap.size w).alloc (Nat.le_refl _) (.cells #[.slice a n c, .int .i64 A, .int .i64 E] 102)).alloc (by simp) (.cells #[.slice none 0 0, .int .i64 0, .int .i64 0] 102))
  have X0 := hid ((Blk.alloc w #[.slice a n c, .int .i64 A, .int .i64 E] (102)).below ((Below.refl _ _).alloc (Nat.le_refl _) (.cells #[.slice none 0 0, .int .i64 0, .int .i64 0] 102)))
  have Y0 := hid (Blk.alloc (w.alloc (.cells #[.slice a n c, .int .i64 A, .int .i64 E] 102)) #[.slice none 0 0, .int .i64 0, .int .i64 0] (102))
  have s0 : Hid (w.heap.size + 2 ≤ ((w.alloc (.cells #[.slice a n c, .int .i64 A, .int .i64 E] 102)).alloc (.cells #[.slice none 0 0, .int .i64 0, .int .i64 0] 102)).heap.size) := by unfold Hid; simp
  generalize ((w.alloc (.cells #[.slice a n c, .int .i64 A, .int .i64 E] 102)).alloc (.cells #[.slice none 0 0, .int .i64 0, .int .i64 0] 102)) = W0 at *
  rw [World.size_alloc] at Y0
  have LD := X0.out.loadAt Try.underlying102 rfl sizeRead
  have C0 := hid (TOT.out W0 (HL.out.below B0.out))
  go_wp2_with (refine wpList_load_at 102 rfl (.tmp 1) rfl _ _ rfl _ LD ?_)
  with_reducible refine C0.out.mono ?_
  rintro e w1 ⟨rfl, b1⟩
  have X1 := hid (X0.out.below b1)
  have Y1 := hid ((Y0.out.below b1).other (ds := #[.slice a n c, .int .i64 A0, .int .i64 E0]) (show w.heap.size + 1 ≠ w.heap.size by omega))
  have BX := X1.out
  unfold Blk at BX
  have XR := hid (X1.out.row #[.slice a n c, .int .i64 A0, .int .i64 E0])
  have BR := hid (setRow_below (q := w.heap.size) (cs := #[.slice a n c, .int .i64 A0, .int .i64 E0]) (B0.out.trans (b1.mono B0.out.size)) (Nat.le_refl _))
  have s1 : Hid (w.heap.size + 2 ≤ (w1.setRow w.heap.size #[.slice a n c, .int .i64 A0, .int .i64 E0]).heap.size) := by unfold Hid; have := s0.out; have := b1.size; simp; omega
  clear C0 LD X0 Y0 B0 b1 s0 TOT X1
  go_upto_region 4 with (refine wpList_store_row rfl 102 (.tmp 1) (.tmp 10) rfl w.heap.size #[.slice a n c, .int .i64 A0, .int .i64 E0] rfl rfl 102 _ BX sizeRead rfl (by simp [Value.oneCell']) ?_)
  clear BX
  generalize w1.setRow w.heap.size #[.slice a n c, .int .i64 A0, .int .i64 E0] = W2 at *
  go_loopw [5, 13] (fun v i wr => ∃ k : Nat, k ≤ N ∧ i = .int .i64 (k : Int) ∧ ∃ ys, Hid (OwnE 138 8 Le.cs (w.heap.size + 2) wr v k ys) ∧ Hid (∀ j (g : j < ys.length), LeSame (liV (rdL l) l A E j) ys[j]) ∧ Hid (∀ y ∈ ys, OwnN (w.heap.size + 2) wr (.slice y.sa y.sl y.sc) y.sl y.co) ∧ Hid (Blk wr w.heap.size 102 #[.slice a n c, .int .i64 (lsS (rdL l) A0 E0 k).1, .int .i64 (lsS (rdL l) A0 E0 k).2]) ∧ Hid (Blk wr (w.heap.size + 1) 102 #[.slice none 0 0, .int .i64 0, .int .i64 0]) ∧ Hid (Below w.heap.size w wr) ∧ Hid (w.heap.size + 2 ≤ wr.heap.size) ∧ Hid (0 < k → (lsS (rdL l) A0 E0 k).2 = 0) ∧ Hid (k = 0 → v = .slice none 0 0)) (fun _ i _ => N + 1 - (intOf i).toNat)
  case atStart => exact ⟨0, by omega, rfl, [], OwnE.nil _ _ _ _ _, (fun j g => absurd g (by simp)), (fun y hy => by cases hy), XR, Y1, BR, s1, fun h => absurd h (by omega), fun _ => rfl⟩
  case round =>
    clear XR Y1 BR s1
    obtain ⟨k, hk', rfl, ys, hO, hS, hM, hX, hY, hB, hs, hz, hv⟩ := hrel
    have LD := hX.out.loadAt Try.underlying102 rfl sizeRead
    have ka : (0 : Int) ≤ (k : Int) := by omega
    by_cases hlt : k < C
    · have kb : (k : Int) < (C : Int) := by omega
      have C1 := hid (fun W (H : HoldsB W a n c l) => dalease_any a n c l (lsS (rdL l) A0 E0 k).1 (lsS (rdL l) A0 E0 k).2 W H (AS.out k).1 (AS.out k).2)
      have EV : Hid (lsV (rdL l) A0 E0 k = (rdL l (lsS (rdL l) A0 E0 k).1 (lsS (rdL l) A0 E0 k).2).1) := rfl
      have ES : Hid (lsS (rdL l) A0 E0 (k + 1) = (rdL l (lsS (rdL l) A0 E0 k).1 (lsS (rdL l) A0 E0 k).2).2) := rfl
      generalize rdL l (lsS (rdL l) A0 E0 k).1 (lsS (rdL l) A0 E0 k).2 = ZZ at *
      obtain ⟨z, A1, E1⟩ := ZZ
      simp only at C1 EV ES
      generalize (lsS (rdL l) A0 E0 k).1 = Ak at *
      generalize (lsS (rdL l) A0 E0 k).2 = Ek at *
      go_upto_region 6 with fail
      have ba := (Below.refl wr.heap.size wr).alloc (Nat.le_refl _) (.cells #[.int .i64 0, .int .i64 0, .int .i64 0, .slice none 0 0, .int .i64 0, .int .i64 0, .int .i64 0, .bool false] 138)
      have XA := hid (hX.out.below ba)
      have YA := hid (hY.out.below ba)
      have ZA := hid (Blk.alloc wr #[.int .i64 0, .int .i64 0, .int .i64 0, .slice none 0 0, .int .i64 0, .int .i64 0, .int .i64 0, .bool false] (138))
      have OA := hid (hO.out.below ba)
      have MA := hid (fun y hy => (hM.out y hy).below ba)
      have QO := hid (fun g e => (hO.out.lt g e).2)
      have QM := hid (fun y hy g e => ((hM.out y hy).lt g e).2)
      have BA := hid (hB.out.trans (ba.mono hB.out.size))
      have hsz := hs.out
      have sA : Hid (wr.heap.size + 1 ≤ (wr.alloc (.cells #[.int .i64 0, .int .i64 0, .int .i64 0, .slice none 0 0, .int .i64 0, .int .i64 0, .int .i64 0, .bool false] 138)).heap.size) := by unfold Hid; simp
      clear hX hY hO hM hB hs ba LD
      generalize wr.alloc (.cells #[.int .i64 0, .int .i64 0, .int .i64 0, .slice none 0 0, .int .i64 0, .int .i64 0, .int .i64 0, .bool false] 138) = wA at *
      generalize wr.heap.size = Q6 at *
      have LD := XA.out.loadAt Try.underlying102 rfl sizeRead
      have CC := hid (C1.out wA (HL.out.below BA.out))
      go_wp2_with (refine wpList_load_at 102 rfl (.tmp 1) rfl _ _ rfl _ LD ?_)
      with_reducible refine CC.out.mono ?_
      rintro e w2 ⟨y, rfl, hgood, b2⟩
      obtain ⟨x0, x1, x2, sa, sl, sc, x4, x5, x6, x7, co⟩ := y
      have HG := hid hgood
      clear hgood
      have hq6 : w.heap.size + 2 ≤ Q6 := hsz
      have X2 := hid (XA.out.below b2)
      have BX := X2.out
      unfold Blk at BX
      have B6 := (ZA.out.below b2).other (q := w.heap.size) (ds := #[.slice a n c, .int .i64 A1, .int .i64 E1]) (by omega)
      unfold Blk at B6
      have X3 := hid ((X2.out.row #[.slice a n c, .int .i64 A1, .int .i64 E1]).other (q := Q6) (ds := #[.int .i64 x0, .int .i64 x1, .int .i64 x2, .slice sa sl sc, .int .i64 x4, .int .i64 x5, .int .i64 x6, .bool x7]) (by omega))
      have Y3 := hid (((YA.out.below b2).other (q := w.heap.size) (ds := #[.slice a n c, .int .i64 A1, .int .i64 E1]) (by omega)).other (q := Q6) (ds := #[.int .i64 x0, .int .i64 x1, .int .i64 x2, .slice sa sl sc, .int .i64 x4, .int .i64 x5, .int .i64 x6, .bool x7]) (by omega))
      have L3 := hid (((ZA.out.below b2).other (q := w.heap.size) (ds := #[.slice a n c, .int .i64 A1, .int .i64 E1]) (by omega)).row #[.int .i64 x0, .int .i64 x1, .int .i64 x2, .slice sa sl sc, .int .i64 x4, .int .i64 x5, .int .i64 x6, .bool x7])
      have O3 := hid (((OA.out.below b2).row (q := w.heap.size) (by omega) #[.slice a n c, .int .i64 A1, .int .i64 E1]).rowN (q := Q6) #[.int .i64 x0, .int .i64 x1, .int .i64 x2, .slice sa sl sc, .int .i64 x4, .int .i64 x5, .int .i64 x6, .bool x7] (fun g e => by have := QO.out g e; omega))
      have M3 := hid (fun y hy => (((MA.out y hy).below b2).row (q := w.heap.size) (by omega) #[.slice a n c, .int .i64 A1, .int .i64 E1]).rowN (q := Q6) #[.int .i64 x0, .int .i64 x1, .int .i64 x2, .slice sa sl sc, .int .i64 x4, .int .i64 x5, .int .i64 x6, .bool x7] (fun g e => by have := QM.out y hy g e; omega))
      have N3 := hid (fun (h : E1 = 0) => ((((HG.out h).2.row (q := w.heap.size) (by have := sA.out; omega) #[.slice a n c, .int .i64 A1, .int .i64 E1]).rowN (q := Q6) #[.int .i64 x0, .int .i64 x1, .int .i64 x2, .slice sa sl sc, .int .i64 x4, .int .i64 x5, .int .i64 x6, .bool x7] (fun g e => by have := ((HG.out h).2.lt g e).1; have := sA.out; omega)).weaken (b' := w.heap.size + 2) (by have := sA.out; omega)))
      have B3 := hid (setRow_below (q := Q6) (cs := #[.int .i64 x0, .int .i64 x1, .int .i64 x2, .slice sa sl sc, .int .i64 x4, .int .i64 x5, .int .i64 x6, .bool x7]) (setRow_below (q := w.heap.size) (cs := #[.slice a n c, .int .i64 A1, .int .i64 E1]) (BA.out.trans (b2.mono BA.out.size)) (Nat.le_refl _)) (by omega))
      have s3 : Hid (w.heap.size + 2 ≤ ((w2.setRow w.heap.size #[.slice a n c, .int .i64 A1, .int .i64 E1]).setRow Q6 #[.int .i64 x0, .int .i64 x1, .int .i64 x2, .slice sa sl sc, .int .i64 x4, .int .i64 x5, .int .i64 x6, .bool x7]).heap.size) := by unfold Hid; have := sA.out; have := b2.size; simp; omega
      have HG1 := hid (fun h => (HG.out h).1)
      clear C1 CC LD XA YA ZA OA MA BA b2 X2 QO QM sA HG hsz
      go_upto_region 7 with (first | refine wpList_store_row rfl 102 (.tmp 1) (.tmp 18) rfl w.heap.size #[.slice a n c, .int .i64 A1, .int .i64 E1] rfl rfl 102 _ BX sizeRead rfl (by simp [Value.oneCell']) ?_ | refine wpList_store_row rfl 138 (.tmp 6) (.tmp 19) rfl Q6 #[.int .i64 x0, .int .i64 x1, .int .i64 x2, .slice sa sl sc, .int .i64 x4, .int .i64 x5, .int .i64 x6, .bool x7] rfl rfl 138 _ B6 sizeLease rfl (by simp [Value.oneCell']) ?_)
      clear BX B6
      generalize (w2.setRow w.heap.size #[.slice a n c, .int .i64 A1, .int .i64 E1]).setRow Q6 #[.int .i64 x0, .int .i64 x1, .int .i64 x2, .slice sa sl sc, .int .i64 x4, .int .i64 x5, .int .i64 x6, .bool x7] = w3 at *
      have c2 := X3.out.cellAt 2 (.int .i64 E1) rfl
      have LD := X3.out.loadAt Try.underlying102 rfl sizeRead
      have LD6 := L3.out.loadAt Try.underlying138 rfl sizeLease
      have BY := Y3.out
      unfold Blk at BY
      by_cases hE : E1 = 0
      · subst hE
        have NG := hid (N3.out rfl)
        have GG := hid (HG1.out rfl)
        have hN : k < N := by
          apply Classical.byContradiction
          intro h
          have e : N = k := by omega
          have := NO.out (by omega)
          rw [e, ES.out] at this
          exact this rfl
        clear LD BY
        go_wp2_with (first | refine wpList_load_at 138 rfl (.tmp 6) rfl _ _ rfl _ LD6 ?_ | (at_builtin; refine push_ownE 44 138 _ 80 Le.cs_len Le.one Try.underlying44 infoLea rfl (by decide) w3 (⟨x0, x1, x2, sa, sl, sc, x4, x5, x6, x7, co⟩ : Le) rfl (.tmp 24) (.tmp 26) rfl (w.heap.size + 2) k u5 ys #[.int .i64 x0, .int .i64 x1, .int .i64 x2, .slice sa sl sc, .int .i64 x4, .int .i64 x5, .int .i64 x6, .bool x7] rfl rfl O3.out s3.out (by simp [Act.eval]) (by omega) (by omega) ?_))
        intro v4 w4 h4 b4 g4
        have O4 := hid h4
        have S4 : Hid (∀ j (g : j < (ys ++ [(⟨x0, x1, x2, sa, sl, sc, x4, x5, x6, x7, co⟩ : Le)]).length), LeSame (liV (rdL l) l A E j) (ys ++ [(⟨x0, x1, x2, sa, sl, sc, x4, x5, x6, x7, co⟩ : Le)])[j]) := fun j g => by
          by_cases hj : j < ys.length
          · rw [List.getElem_append_left hj]; exact hS.out j hj
          · have hyl := O3.out.len
            have e : j = k := by rw [List.length_append] at g; simp at g; omega
            subst e
            rw [List.getElem_append_right (by omega)]
            simp only [hyl, Nat.sub_self, List.getElem_cons_zero]
            rw [PV.out, EV.out]
            exact GG.out
        have M4 : Hid (∀ y ∈ ys ++ [(⟨x0, x1, x2, sa, sl, sc, x4, x5, x6, x7, co⟩ : Le)], OwnN (w.heap.size + 2) w4 (.slice y.sa y.sl y.sc) y.sl y.co) := fun y hy => by
          rcases List.mem_append.1 hy with hy | hy
          · exact (M3.out y hy).grownN g4 (own_ne (M3.out y hy) O3.out (by decide))
          · simp only [List.mem_singleton] at hy
            subst hy
            exact NG.out.grownN g4 (own_ne NG.out O3.out (by decide))
        have X4 := hid (X3.out.low b4 (by omega))
        have Y4 := hid (Y3.out.low b4 (by omega))
        have B4 := hid (B3.out.trans (b4.mono (by omega)))
        have s4 : Hid (w.heap.size + 2 ≤ w4.heap.size) := by unfold Hid; have := b4.size; have := s3.out; omega
        clear h4 b4 g4 O3 X3 Y3 B3 s3 c2 LD6 L3 M3 N3 HG1 hS NG GG
        go_wp2_with fail
        refine ⟨⟨k + 1, by omega, by go_num, _, O4, S4, M4, by unfold Hid; rw [ES.out]; exact X4.out, Y4, B4, s4, (fun _ => by rw [ES.out]), (fun h => absurd h (by omega))⟩, ?_⟩
        simp [intOf]; omega
      · have tE : (E1 != 0) = true := by simpa using hE
        have hN : N = k := by
          apply Classical.byContradiction
          intro h
          have := NY.out k (by omega) (by omega)
          rw [ES.out] at this
          exact hE this
        have F1 : Hid (FN = (A1, E1)) := by unfold Hid; rw [FF.out, if_pos (by omega), hN, ES.out]
        have HE := hid hE
        clear hE hN O3 LD6 L3 M3 N3 HG1 hS
        go_wp2_with (first | refine wpList_load_at 102 rfl (.tmp 1) rfl _ _ rfl _ LD ?_ | refine wpList_store_row rfl 102 (.tmp 2) (.tmp 23) rfl (w.heap.size + 1) #[.slice a n c, .int .i64 A1, .int .i64 E1] rfl rfl 102 _ BY sizeRead rfl (by simp [Value.oneCell']) ?_)
        refine bodyPost_ret (results_cell2 rfl rfl ((Y3.out.row _).loadVar Try.underlying102 rfl sizeRead)) rfl ?_
        rw [F1.out]
        exact ⟨_, rfl, (fun h => absurd h HE.out), fun _ => rfl, setRow_below B3.out (by omega)⟩
    · have kc : k = C := by omega
      have kn : N = k := by omega
      subst kn
      have kb : ¬ ((N : Int) < (C : Int)) := by omega
      have F1 : Hid (FN = lsS (rdL l) A0 E0 N) := by unfold Hid; rw [FF.out, if_neg (by omega)]
      have BY := hY.out
      unfold Blk at BY
      generalize lsS (rdL l) A0 E0 N = SN at *
      subst kc
      go_wp2_with (first | refine wpList_load_at 102 rfl (.tmp 1) rfl _ _ rfl _ LD ?_ | refine wpList_store_row rfl 102 (.tmp 2) (.tmp 29) rfl (w.heap.size + 1) #[.slice a n c, .int .i64 SN.1, .int .i64 SN.2] rfl rfl 102 _ BY sizeRead rfl (by simp [Value.oneCell']) ?_)
      refine bodyPost_ret (results_cell2 rfl rfl ((hY.out.row _).loadVar Try.underlying102 rfl sizeRead)) rfl ?_
      rw [F1.out]
      refine ⟨_, rfl, fun _ => ⟨ys, (hO.out.row (by omega) _).weaken (by omega), hS.out, fun y hy => ((hM.out y hy).row (by omega) _).weaken (by omega)⟩, fun h => ?_, setRow_below hB.out (by omega)⟩
      by_cases h0 : N = 0
      · exact hv.out h0
      · exact absurd (hz.out (by omega)) h
end Go.Proofs.Ythkbddnkcljjpaa

namespace Go.Proofs.Ythkbddnkcljjpaa
open Go.RowKit Go.Deep Go.Maps
set_option linter.unusedVariables false
set_option linter.unusedSimpArgs false

theorem OwnE.blk {α : Type} {e : TypeId} {k : Nat} {enc : α → List Value} {base n : Nat} {l : List α} {v : Value} {w : World} (h : OwnE e k enc base w v n l) {q t : Nat} {cs : Array Value} (b : Blk w q t cs) (hne : t ≠ e) (ds : Array Value) : OwnE e k enc base (w.setRow q ds) v n l := by
  refine h.rowN ds (fun g hg => ?_)
  rintro rfl
  rcases h.2.2 with ⟨rfl, _⟩ | ⟨g', cap, cur, rfl, _, hh, _⟩
  · simp [Value.ownBlock] at hg
  · simp [Value.ownBlock] at hg
    subst hg
    unfold Blk at b
    rw [b] at hh
    simp at hh
    exact hne hh.2
theorem Blk.grow {α : Type} {e : TypeId} {k : Nat} {enc : α → List Value} {base n : Nat} {l : List α} {v : Value} {A B : World} {Q t : Nat} {cs : Array Value} (b : Blk A Q t cs) (h : OwnE e k enc base A v n l) (hne : t ≠ e) (hg : A.grownBy B v.ownBlock) : Blk B Q t cs := by
  refine (hg.block Q b.lt (fun e2 => ?_)).trans b
  rcases h.2.2 with ⟨rfl, _⟩ | ⟨g', cap, cur, rfl, _, hh, _⟩
  · simp [Value.ownBlock] at e2
  · simp [Value.ownBlock] at e2
    subst e2
    unfold Blk at b
    rw [b] at hh
    simp at hh
    exact hne hh.2

/-- A fact that stays, whatever is laid, stored into boxes of that type or of a reader, or appended to rows of that type. -/
def Keeps (e : TypeId) (base : Nat) (P : World → Prop) : Prop :=
  (∀ W W', P W → Below W.heap.size W W' → P W') ∧ (∀ W q t cs ds, P W → Blk W q t cs → (t = e ∨ t = 102) → P (W.setRow q ds)) ∧ (∀ W (a : Addr) v, P W → a.block < base → P (W.setCell a v)) ∧
  (∀ (α : Type) (k : Nat) (enc : α → List Value) (b : Nat) (n : Nat) (l : List α) (v : Value) W W', P W → OwnE e k enc b W v n l → W.grownBy W' v.ownBlock → P W')
theorem Keeps.true (e : TypeId) (base : Nat) : Keeps e base (fun _ => True) := ⟨fun _ _ _ _ => trivial, fun _ _ _ _ _ _ _ _ => trivial, fun _ _ _ _ _ => trivial, fun _ _ _ _ _ _ _ _ _ _ _ _ => trivial⟩
theorem Keeps.own {β : Type} {e e' : TypeId} {k' : Nat} {enc' : β → List Value} {base n' : Nat} {l' : List β} {v' : Value} (hne : e' ≠ e ∧ e' ≠ 102) : Keeps e base (fun W => OwnE e' k' enc' base W v' n' l') :=
  ⟨fun W W' h b => h.below b, fun W q t cs ds h b ht => h.blk b (by rcases ht with rfl | rfl; exact Ne.symm hne.1; exact Ne.symm hne.2) ds, fun W a v h ha => h.cellO a v ha, fun α k enc b n l v W W' h ho hg => h.grownN hg (fun g hg' e2 => own_ne h ho hne.1 g hg' e2)⟩
theorem Keeps.and {e : TypeId} {base : Nat} {P Q : World → Prop} (h : Keeps e base P) (g : Keeps e base Q) : Keeps e base (fun W => P W ∧ Q W) :=
  ⟨fun W W' x b => ⟨h.1 W W' x.1 b, g.1 W W' x.2 b⟩, fun W q t cs ds x b ht => ⟨h.2.1 W q t cs ds x.1 b ht, g.2.1 W q t cs ds x.2 b ht⟩, fun W a v x b => ⟨h.2.2.1 W a v x.1 b, g.2.2.1 W a v x.2 b⟩, fun α k enc b n l v W W' x ho hg => ⟨h.2.2.2 α k enc b n l v W W' x.1 ho hg, g.2.2.2 α k enc b n l v W W' x.2 ho hg⟩⟩
theorem Keeps.imp {e : TypeId} {base : Nat} {P : World → Prop} {c : Prop} (h : Keeps e base P) : Keeps e base (fun W => c → P W) :=
  ⟨fun W W' x b z => h.1 W W' (x z) b, fun W q t cs ds x b ht z => h.2.1 W q t cs ds (x z) b ht, fun W a v x b z => h.2.2.1 W a v (x z) b, fun α k enc b n l v W W' x ho hg z => h.2.2.2 α k enc b n l v W W' (x z) ho hg⟩
theorem Keeps.all {β : Type} {e : TypeId} {base : Nat} {P : β → World → Prop} {ys : List β} (h : ∀ y, Keeps e base (P y)) : Keeps e base (fun W => ∀ y ∈ ys, P y W) :=
  ⟨fun W W' x b y hy => (h y).1 W W' (x y hy) b, fun W q t cs ds x b ht y hy => (h y).2.1 W q t cs ds (x y hy) b ht, fun W a v x b y hy => (h y).2.2.1 W a v (x y hy) b, fun α k enc b n l v W W' x ho hg y hy => (h y).2.2.2 α k enc b n l v W W' (x y hy) ho hg⟩

theorem upT_zero {l : List Int} {A E m f : Int} (h : (upT l A E m f).2.2 ≠ 0) : (upT l A E m f).1 = 0 := by
  unfold upT at h ⊢
  split
  · rename_i e
    rw [if_pos e] at h
    split
    · rfl
    · rename_i e2
      rw [if_neg e2] at h
      unfold rd at h ⊢
      repeat' split
      all_goals first | rfl | (exfalso; apply h; simp_all)
  · rfl
theorem li_exit {α : Type} {pe : Int → Int → α × Int × Int} {l : List Int} {A E : Int} {k : Nat} (hk : k ≤ (upT l A E 1024 3).1.toNat) (inv : ∀ j, j < k → (lsS pe (upT l A E 1024 3).2.1 (upT l A E 1024 3).2.2 j).2 = 0)
    (hx : (upT l A E 1024 3).1.toNat ≤ k ∨ (lsS pe (upT l A E 1024 3).2.1 (upT l A E 1024 3).2.2 k).2 ≠ 0) :
    liF pe l A E = lsS pe (upT l A E 1024 3).2.1 (upT l A E 1024 3).2.2 k ∧ ((lsS pe (upT l A E 1024 3).2.1 (upT l A E 1024 3).2.2 k).2 = 0 → liC pe l A E = k) := by
  have hz := upT_zero (l := l) (A := A) (E := E) (m := 1024) (f := 3)
  unfold liF liC lsF lsC
  generalize upT l A E 1024 3 = U at *
  obtain ⟨cc, A0, E0⟩ := U
  simp only at *
  have hz' : E0 ≠ 0 → cc.toNat = 0 := fun h => by rw [hz h]; rfl
  clear hz
  generalize cc.toNat = C at *
  have Y := lsN_yes pe A0 E0 C 0
  have N := lsN_no pe A0 E0 C 0
  have L := (lsN_le pe A0 E0 C 0).2
  generalize lsN pe A0 E0 C 0 = n at *
  by_cases hE : (lsS pe A0 E0 k).2 = 0
  · have h1 : ¬ n < k := fun h => by
      have h2 := N (by omega)
      rcases Nat.lt_or_ge (n + 1) k with h3 | h3
      · exact h2 (inv _ h3)
      · have e : n + 1 = k := by omega
        rw [e] at h2
        exact h2 hE
    have h4 : C ≤ k := hx.resolve_right (fun h => h hE)
    have e : n = k := by omega
    rw [if_neg (by omega), e]
    exact ⟨rfl, fun _ => rfl⟩
  · rcases Nat.eq_zero_or_pos k with h0 | h0
    · subst h0
      have h1 := hz' hE
      have e : n = 0 := by omega
      rw [if_neg (by omega), e]
      exact ⟨rfl, fun h => absurd h hE⟩
    · have h1 : ¬ k ≤ n := fun h => by
        have h2 := Y (k - 1) (by omega) (by omega)
        rw [Nat.sub_add_cancel h0] at h2
        exact hE h2
      have h2 : ¬ n + 1 < k := fun h => N (by omega) (inv _ h)
      have e : n + 1 = k := by omega
      rw [if_pos (by omega), e]
      exact ⟨rfl, fun h => absurd h hE⟩
theorem dq_loop (a : Option Addr) (n c : Nat) (l : List Int) (A E : Int) (w : World) (hl : HoldsB w a n c l) (h0 : 0 ≤ A) (h1 : A ≤ n) : ∃ (C : Nat) (S : Nat → Int × Int) (V : Nat → Q7), C ≤ 1024 ∧ (∀ W, HoldsB W a n c l → Calls Try.prog 65 #[.agg #[.slice a n c, .int .i64 A, .int .i64 E]] W fun e w' => e = .returned (.tuple #[.agg #[.slice a n c, .int .i64 (S 0).1, .int .i64 (S 0).2], .int .i64 (C : Int)]) ∧ Below W.heap.size W w') ∧ (∀ k W, HoldsB W a n c l → Calls Try.prog 54 #[.agg #[.slice a n c, .int .i64 (S k).1, .int .i64 (S k).2]] W fun e w' => e = .returned (.tuple #[.agg #[.slice a n c, .int .i64 (S (k + 1)).1, .int .i64 (S (k + 1)).2], .agg (V k).cs.toArray]) ∧ Below W.heap.size W w') ∧ (∀ k, k ≤ C → (∀ j, j < k → (S j).2 = 0) → (C ≤ k ∨ (S k).2 ≠ 0) → liF (rdQ l) l A E = S k ∧ ((S k).2 = 0 → liC (rdQ l) l A E = k ∧ liL (rdQ l) l A E = (List.range k).map V)) := by
  have hlen := hl.1
  have hnm := hl.2.1
  have CB := upT_bd l A E 1024 3 hl.2.2.2.2.1 (by omega)
  have AT := upT_at l A E 1024 3 h0 (by omega)
  have AS := fun k => lsS_at (pe := rdQ l) (n := n) (E := (upT l A E 1024 3).2.2) (fun A E h0 h1 => by have := rdQ_at l A E h0 (by omega); omega) AT.1 (by have := AT.2; omega) k
  refine ⟨(upT l A E 1024 3).1.toNat, lsS (rdQ l) (upT l A E 1024 3).2.1 (upT l A E 1024 3).2.2, lsV (rdQ l) (upT l A E 1024 3).2.1 (upT l A E 1024 3).2.2, by omega, fun W H => ?_, fun k W H => ?_, fun k hk inv hx => ?_⟩
  · have h := dtotal_any a n c l A E W H ⟨by omega, by omega⟩
    rw [show (((upT l A E 1024 3).1.toNat : Nat) : Int) = (upT l A E 1024 3).1 from by omega]
    exact h
  · exact daqueue_any a n c l _ _ W H (AS k).1 (AS k).2
  · have h := li_exit (pe := rdQ l) hk inv hx
    exact ⟨h.1, fun z => ⟨h.2 z, by rw [← liT_all, h.2 z]; rfl⟩⟩
theorem dn_loop (a : Option Addr) (n c : Nat) (l : List Int) (A E : Int) (w : World) (hl : HoldsB w a n c l) (h0 : 0 ≤ A) (h1 : A ≤ n) : ∃ (C : Nat) (S : Nat → Int × Int) (V : Nat → N5), C ≤ 1024 ∧ (∀ W, HoldsB W a n c l → Calls Try.prog 65 #[.agg #[.slice a n c, .int .i64 A, .int .i64 E]] W fun e w' => e = .returned (.tuple #[.agg #[.slice a n c, .int .i64 (S 0).1, .int .i64 (S 0).2], .int .i64 (C : Int)]) ∧ Below W.heap.size W w') ∧ (∀ k W, HoldsB W a n c l → Calls Try.prog 55 #[.agg #[.slice a n c, .int .i64 (S k).1, .int .i64 (S k).2]] W fun e w' => e = .returned (.tuple #[.agg #[.slice a n c, .int .i64 (S (k + 1)).1, .int .i64 (S (k + 1)).2], .agg (V k).cs.toArray]) ∧ Below W.heap.size W w') ∧ (∀ k, k ≤ C → (∀ j, j < k → (S j).2 = 0) → (C ≤ k ∨ (S k).2 ≠ 0) → liF (rdN l) l A E = S k ∧ ((S k).2 = 0 → liC (rdN l) l A E = k ∧ liL (rdN l) l A E = (List.range k).map V)) := by
  have hlen := hl.1
  have hnm := hl.2.1
  have CB := upT_bd l A E 1024 3 hl.2.2.2.2.1 (by omega)
  have AT := upT_at l A E 1024 3 h0 (by omega)
  have AS := fun k => lsS_at (pe := rdN l) (n := n) (E := (upT l A E 1024 3).2.2) (fun A E h0 h1 => by have := rdN_at l A E h0 (by omega); omega) AT.1 (by have := AT.2; omega) k
  refine ⟨(upT l A E 1024 3).1.toNat, lsS (rdN l) (upT l A E 1024 3).2.1 (upT l A E 1024 3).2.2, lsV (rdN l) (upT l A E 1024 3).2.1 (upT l A E 1024 3).2.2, by omega, fun W H => ?_, fun k W H => ?_, fun k hk inv hx => ?_⟩
  · have h := dtotal_any a n c l A E W H ⟨by omega, by omega⟩
    rw [show (((upT l A E 1024 3).1.toNat : Nat) : Int) = (upT l A E 1024 3).1 from by omega]
    exact h
  · exact danode_any a n c l _ _ W H (AS k).1 (AS k).2
  · have h := li_exit (pe := rdN l) hk inv hx
    exact ⟨h.1, fun z => ⟨h.2 z, by rw [← liT_all, h.2 z]; rfl⟩⟩
theorem dt_loop (a : Option Addr) (n c : Nat) (l : List Int) (A E : Int) (w : World) (hl : HoldsB w a n c l) (h0 : 0 ≤ A) (h1 : A ≤ n) : ∃ (C : Nat) (S : Nat → Int × Int) (V : Nat → T7), C ≤ 1024 ∧ (∀ W, HoldsB W a n c l → Calls Try.prog 65 #[.agg #[.slice a n c, .int .i64 A, .int .i64 E]] W fun e w' => e = .returned (.tuple #[.agg #[.slice a n c, .int .i64 (S 0).1, .int .i64 (S 0).2], .int .i64 (C : Int)]) ∧ Below W.heap.size W w') ∧ (∀ k W, HoldsB W a n c l → Calls Try.prog 56 #[.agg #[.slice a n c, .int .i64 (S k).1, .int .i64 (S k).2]] W fun e w' => ∃ y : T7, e = .returned (.tuple #[.agg #[.slice a n c, .int .i64 (S (k + 1)).1, .int .i64 (S (k + 1)).2], .agg y.cs.toArray]) ∧ ((S (k + 1)).2 = 0 → TaSame (V k) y ∧ OwnN W.heap.size w' (.slice y.sa y.sl y.sc) y.sl y.tk) ∧ Below W.heap.size W w') ∧ (∀ k, k ≤ C → (∀ j, j < k → (S j).2 = 0) → (C ≤ k ∨ (S k).2 ≠ 0) → liF (rdT l) l A E = S k ∧ ((S k).2 = 0 → liC (rdT l) l A E = k ∧ ∀ j, liV (rdT l) l A E j = V j)) := by
  have hlen := hl.1
  have hnm := hl.2.1
  have CB := upT_bd l A E 1024 3 hl.2.2.2.2.1 (by omega)
  have AT := upT_at l A E 1024 3 h0 (by omega)
  have AS := fun k => lsS_at (pe := rdT l) (n := n) (E := (upT l A E 1024 3).2.2) (fun A E h0 h1 => by have := rdT_at l A E h0 (by omega); omega) AT.1 (by have := AT.2; omega) k
  refine ⟨(upT l A E 1024 3).1.toNat, lsS (rdT l) (upT l A E 1024 3).2.1 (upT l A E 1024 3).2.2, lsV (rdT l) (upT l A E 1024 3).2.1 (upT l A E 1024 3).2.2, by omega, fun W H => ?_, fun k W H => ?_, fun k hk inv hx => ?_⟩
  · have h := dtotal_any a n c l A E W H ⟨by omega, by omega⟩
    rw [show (((upT l A E 1024 3).1.toNat : Nat) : Int) = (upT l A E 1024 3).1 from by omega]
    exact h
  · exact datask_any a n c l _ _ W H (AS k).1 (AS k).2
  · have h := li_exit (pe := rdT l) hk inv hx
    exact ⟨h.1, fun z => ⟨h.2 z, fun j => rfl⟩⟩
theorem rdH_ls (l : List Int) (A E : Int) : rdH l A E = (⟨lsV (tkI l) A E 0, lsV (tkI l) A E 1⟩, lsS (tkI l) A E 2) := by unfold rdH; simp only [tkc_ls]
theorem dh_loop (a : Option Addr) (n c : Nat) (l : List Int) (A E : Int) (w : World) (hl : HoldsB w a n c l) (h0 : 0 ≤ A) (h1 : A ≤ n) : ∃ (C : Nat) (S : Nat → Int × Int) (V : Nat → H2), C ≤ 1024 ∧ (∀ W, HoldsB W a n c l → Calls Try.prog 65 #[.agg #[.slice a n c, .int .i64 A, .int .i64 E]] W fun e w' => e = .returned (.tuple #[.agg #[.slice a n c, .int .i64 (S 0).1, .int .i64 (S 0).2], .int .i64 (C : Int)]) ∧ Below W.heap.size W w') ∧ (∀ k W, HoldsB W a n c l → Calls Try.prog 52 #[.agg #[.slice a n c, .int .i64 (S k).1, .int .i64 (S k).2], .int .i64 2] W fun e w' => ∃ g, e = .returned (.tuple #[.agg #[.slice a n c, .int .i64 (S (k + 1)).1, .int .i64 (S (k + 1)).2], .slice (some ⟨g, 0, none⟩) 2 2]) ∧ W.heap.size ≤ g ∧ Blk w' g 2 #[.int .i64 (V k).a, .int .i64 (V k).b] ∧ Below W.heap.size W w') ∧ (∀ k, k ≤ C → (∀ j, j < k → (S j).2 = 0) → (C ≤ k ∨ (S k).2 ≠ 0) → liF (rdH l) l A E = S k ∧ ((S k).2 = 0 → liC (rdH l) l A E = k ∧ liL (rdH l) l A E = (List.range k).map V)) := by
  have hlen := hl.1
  have hnm := hl.2.1
  have CB := upT_bd l A E 1024 3 hl.2.2.2.2.1 (by omega)
  have AT := upT_at l A E 1024 3 h0 (by omega)
  have AS := fun k => lsS_at (pe := rdH l) (n := n) (E := (upT l A E 1024 3).2.2) (fun A E h0 h1 => by have := rdH_at l A E h0 (by omega); omega) AT.1 (by have := AT.2; omega) k
  refine ⟨(upT l A E 1024 3).1.toNat, lsS (rdH l) (upT l A E 1024 3).2.1 (upT l A E 1024 3).2.2, lsV (rdH l) (upT l A E 1024 3).2.1 (upT l A E 1024 3).2.2, by omega, fun W H => ?_, fun k W H => ?_, fun k hk inv hx => ?_⟩
  · have h := dtotal_any a n c l A E W H ⟨by omega, by omega⟩
    rw [show (((upT l A E 1024 3).1.toNat : Nat) : Int) = (upT l A E 1024 3).1 from by omega]
    exact h
  · have h := dnums2_any a n c l (lsS (rdH l) (upT l A E 1024 3).2.1 (upT l A E 1024 3).2.2 k).1 (lsS (rdH l) (upT l A E 1024 3).2.1 (upT l A E 1024 3).2.2 k).2 W H (AS k).1 (AS k).2
    have e := rdH_ls l (lsS (rdH l) (upT l A E 1024 3).2.1 (upT l A E 1024 3).2.2 k).1 (lsS (rdH l) (upT l A E 1024 3).2.1 (upT l A E 1024 3).2.2 k).2
    have e1 : lsS (rdH l) (upT l A E 1024 3).2.1 (upT l A E 1024 3).2.2 (k + 1) = lsS (tkI l) (lsS (rdH l) (upT l A E 1024 3).2.1 (upT l A E 1024 3).2.2 k).1 (lsS (rdH l) (upT l A E 1024 3).2.1 (upT l A E 1024 3).2.2 k).2 2 := congrArg Prod.snd e
    have e2 : lsV (rdH l) (upT l A E 1024 3).2.1 (upT l A E 1024 3).2.2 k = ⟨lsV (tkI l) (lsS (rdH l) (upT l A E 1024 3).2.1 (upT l A E 1024 3).2.2 k).1 (lsS (rdH l) (upT l A E 1024 3).2.1 (upT l A E 1024 3).2.2 k).2 0, lsV (tkI l) (lsS (rdH l) (upT l A E 1024 3).2.1 (upT l A E 1024 3).2.2 k).1 (lsS (rdH l) (upT l A E 1024 3).2.1 (upT l A E 1024 3).2.2 k).2 1⟩ := congrArg Prod.fst e
    rw [e1, e2]
    exact h
  · have h := li_exit (pe := rdH l) hk inv hx
    exact ⟨h.1, fun z => ⟨h.2 z, by rw [← liT_all, h.2 z]; rfl⟩⟩
end Go.Proofs.Ythkbddnkcljjpaa

namespace Go.Proofs.Ythkbddnkcljjpaa
open Go.RowKit Go.Deep Go.Maps
set_option linter.unusedVariables false
set_option linter.unusedSimpArgs false
theorem liF_err {α : Type} {pe : Int → Int → α × Int × Int} {l : List Int} {A E : Int} (h : (liF pe l A E).2 = 0) : E = 0 := by
  by_cases e : E = 0
  · exact e
  · exfalso
    have hu : upT l A E 1024 3 = (0, A, E) := by unfold upT; rw [if_neg e]
    unfold liF lsF lsC at h
    rw [hu] at h
    simp [lsN, lsS] at h
    exact e h
theorem endT_err {n : Nat} {A E : Int} (h : (endT n A E).2 = 0) : E = 0 := by
  by_cases e : E = 0
  · exact e
  · unfold endT at h; rw [if_neg e] at h; exact h
theorem endT_zero {n : Nat} {A E : Int} (h : (endT n A E).2 = 0) : endT n A E = (0, 0) := by
  have e := endT_err h
  subst e
  unfold endT at h ⊢
  rw [if_pos rfl] at h ⊢
  split
  · rename_i h1; rw [if_pos h1] at h; simp at h
  · rfl
set_option maxRecDepth 100000 in
set_option maxHeartbeats 8000000 in
theorem ddocanswer_any (a : Option Addr) (n c : Nat) (l : List Int) (w : World) (hl : HoldsB w a n c l) :
    Calls Try.prog 25 #[.slice a n c] w fun e w' => ∃ cs, e = .returned (.tuple #[.agg cs, .int .i64 (endT n (anE l 0 0).1 (anE l 0 0).2).1, .int .i64 (endT n (anE l 0 0).1 (anE l 0 0).2).2]) ∧ ((endT n (anE l 0 0).1 (anE l 0 0).2).2 ≠ 0 → cs = #[.int .i64 0, .int .i64 0, .int .i64 0, .slice none 0 0, .slice none 0 0]) ∧ ((endT n (anE l 0 0).1 (anE l 0 0).2).2 = 0 → AnO l 0 0 w.heap.size w' cs) ∧ Below w.heap.size w w' := by
  have HL := hid hl
  have hlen := hl.1
  have hnm := hl.2.1
  clear hl
  have a3 := lsS_at (pe := tkI l) (n := n) (A := 0) (E := 0) (fun A E h0 h1 => by have := tkI_at l A E h0 (by omega); omega) (by omega) (by omega) 3
  have aB := liF_at (pe := tkI l) (l := l) (E := (lsS (tkI l) 0 0 3).2) (fun A E h0 h1 => tkI_at l A E h0 h1) a3.1 (by omega)
  have N1 := hid (fun W (H : HoldsB W a n c l) => dnums3_any a n c l 0 0 W H (by omega) (by omega))
  have N2 := hid (fun W (H : HoldsB W a n c l) => dlist_any a n c l (lsS (tkI l) 0 0 3).1 (lsS (tkI l) 0 0 3).2 W H a3.1 a3.2)
  have N3 := hid (fun W (H : HoldsB W a n c l) => dsome_any a n c l (liF (tkI l) l (lsS (tkI l) 0 0 3).1 (lsS (tkI l) 0 0 3).2).1 (liF (tkI l) l (lsS (tkI l) 0 0 3).1 (lsS (tkI l) 0 0 3).2).2 W H aB.1 (by omega))
  have EA : Hid (anE l 0 0 = liF (rdL l) l (liF (tkI l) l (lsS (tkI l) 0 0 3).1 (lsS (tkI l) 0 0 3).2).1 (liF (tkI l) l (lsS (tkI l) 0 0 3).1 (lsS (tkI l) 0 0 3).2).2) := by unfold Hid anE anB; simp only [tkc_ls]
  have E2 := hid (fun h => liF_err (pe := rdL l) (l := l) (A := (liF (tkI l) l (lsS (tkI l) 0 0 3).1 (lsS (tkI l) 0 0 3).2).1) (E := (liF (tkI l) l (lsS (tkI l) 0 0 3).1 (lsS (tkI l) 0 0 3).2).2) h)
  have FIN : Hid (∀ (base : Nat) (W : World) (vI vL : Value) (yL : List Le), OwnN base W vI (liC (tkI l) l (lsS (tkI l) 0 0 3).1 (lsS (tkI l) 0 0 3).2) (liL (tkI l) l (lsS (tkI l) 0 0 3).1 (lsS (tkI l) 0 0 3).2) → (OwnE 138 8 Le.cs base W vL (liC (rdL l) l (liF (tkI l) l (lsS (tkI l) 0 0 3).1 (lsS (tkI l) 0 0 3).2).1 (liF (tkI l) l (lsS (tkI l) 0 0 3).1 (lsS (tkI l) 0 0 3).2).2) yL ∧ (∀ j (g : j < yL.length), LeSame (liV (rdL l) l (liF (tkI l) l (lsS (tkI l) 0 0 3).1 (lsS (tkI l) 0 0 3).2).1 (liF (tkI l) l (lsS (tkI l) 0 0 3).1 (lsS (tkI l) 0 0 3).2).2 j) yL[j]) ∧ (∀ y ∈ yL, OwnN base W (.slice y.sa y.sl y.sc) y.sl y.co)) → AnO l 0 0 base W #[.int .i64 (lsV (tkI l) 0 0 0), .int .i64 (lsV (tkI l) 0 0 1), .int .i64 (lsV (tkI l) 0 0 2), vI, vL]) := by
    unfold Hid AnO anB
    simp only [tkc_ls]
    intro base W vI vL yL h1 h2
    exact ⟨vI, vL, yL, rfl, h1, h2⟩
  clear a3 aB
  rw [EA.out]
  generalize lsV (tkI l) 0 0 0 = x0 at *
  generalize lsV (tkI l) 0 0 1 = x1 at *
  generalize lsV (tkI l) 0 0 2 = x2 at *
  generalize AnO l 0 0 = AN at *
  generalize hs1 : lsS (tkI l) 0 0 3 = S1 at *
  obtain ⟨P1, F1⟩ := S1
  simp only at N1 N2 N3 E2 FIN EA
  generalize liC (tkI l) l P1 F1 = NC at *
  generalize liL (tkI l) l P1 F1 = LL at *
  generalize hs2 : liF (tkI l) l P1 F1 = S2 at *
  obtain ⟨P2, F2⟩ := S2
  simp only at N2 N3 E2 FIN EA
  generalize liC (rdL l) l P2 F2 = NL at *
  generalize liV (rdL l) l P2 F2 = VL at *
  generalize hs3 : liF (rdL l) l P2 F2 = S3 at *
  obtain ⟨P3, F3⟩ := S3
  simp only at N3 E2
  clear hs1 hs2 hs3 EA
  go_enter Try.func25, Try.ntmps25
  go_upto_region 1 with fail
  have B := hid ((Below.refl w.heap.size w).alloc (Nat.le_refl _) (.cells #[.int .i64 0, .int .i64 0, .int .i64 0, .slice none 0 0, .slice none 0 0] 46))
  have Y := hid (Blk.alloc w #[.int .i64 0, .int .i64 0, .int .i64 0, .slice none 0 0, .slice none 0 0] (46))
  have s : Hid (w.heap.size + 1 ≤ (w.alloc (.cells #[.int .i64 0, .int .i64 0, .int .i64 0, .slice none 0 0, .slice none 0 0] 46)).heap.size) := by unfold Hid; simp
  generalize (w.alloc (.cells #[.int .i64 0, .int .i64 0, .int .i64 0, .slice none 0 0, .slice none 0 0] 46)) = W0 at *
  have CC := hid (N1.out W0 (HL.out.below B.out))
  go_wp2_with (refine wpList_built rfl 102 _ rfl #[.slice a n c, .int .i64 0, .int .i64 0] (by kernel_rfl) ?_)
  with_reducible refine CC.out.mono ?_
  rintro e w1 ⟨g, rfl, hg, hb, b1⟩
  have hg1 : w.heap.size + 1 ≤ g := by have := s.out; omega
  have hg2 := hb.lt
  have b2 := (Below.refl w1.heap.size w1).alloc (Nat.le_refl _) (.cells #[.slice a n c, .int .i64 P1, .int .i64 F1] 102)
  have X := hid (Blk.alloc w1 #[.slice a n c, .int .i64 P1, .int .i64 F1] (102))
  replace Y := hid ((Y.out.below b1).below b2)
  have G := hid (hb.below b2)
  replace B := hid ((B.out.trans (b1.mono B.out.size)).trans (b2.mono (B.out.trans (b1.mono B.out.size)).size))
  replace s : Hid (w1.heap.size + 1 ≤ (w1.alloc (.cells #[.slice a n c, .int .i64 P1, .int .i64 F1] 102)).heap.size) := by unfold Hid; simp
  clear CC b1 b2 hb hg N1
  go_upto_region 2 with (refine wpList_store_row rfl 102 (.tmp 5) (.tmp 15) rfl w1.heap.size #[.slice a n c, .int .i64 P1, .int .i64 F1] rfl rfl 102 _ (heap_alloc_new w1 _) sizeRead rfl (by simp [Value.oneCell']) ?_)
  rw [alloc_row]
  generalize w1.alloc (.cells #[.slice a n c, .int .i64 P1, .int .i64 F1] 102) = W1 at *
  generalize w1.heap.size = Q5 at *
  have LD := X.out.loadAt Try.underlying102 rfl sizeRead
  have CC := hid (N2.out W1 (HL.out.below B.out))
  go_wp2_with (refine wpList_load_at 102 rfl (.tmp 5) rfl _ _ rfl _ LD ?_)
  with_reducible refine CC.out.mono ?_
  rintro e w2 ⟨v, rfl, hv, hv2, b1⟩
  obtain ⟨va, vn, vc, rfl, hvg⟩ : ∃ va vn vc, v = .slice va vn vc ∧ (F2 = 0 → OwnN W1.heap.size w2 (.slice va vn vc) NC LL) := by
    by_cases hF : F2 = 0
    · have h := hv hF
      obtain ⟨va, vc, rfl⟩ := h.form
      exact ⟨va, NC, vc, rfl, fun _ => h⟩
    · exact ⟨none, 0, 0, hv2 hF, fun h => absurd h hF⟩
  have hss := s.out
  have BX := X.out.below b1
  unfold Blk at BX
  replace X := hid ((X.out.below b1).row #[.slice a n c, .int .i64 P2, .int .i64 F2])
  replace Y := hid ((Y.out.below b1).other (q := Q5) (ds := #[.slice a n c, .int .i64 P2, .int .i64 F2]) (by omega))
  replace G := hid ((G.out.below b1).other (q := Q5) (ds := #[.slice a n c, .int .i64 P2, .int .i64 F2]) (by omega))
  have OV := hid (fun z => ((hvg z).weaken (b' := Q5 + 1) (by omega)).row (q := Q5) (by omega) #[.slice a n c, .int .i64 P2, .int .i64 F2])
  replace B := hid (setRow_below (q := Q5) (cs := #[.slice a n c, .int .i64 P2, .int .i64 F2]) (B.out.trans (b1.mono B.out.size)) (by omega))
  replace s : Hid (Q5 + 1 ≤ (w2.setRow Q5 #[.slice a n c, .int .i64 P2, .int .i64 F2]).heap.size) := by unfold Hid; have := b1.size; simp; omega
  clear CC LD b1 hv hv2 hvg hss N2
  go_upto_region 3 with (refine wpList_store_row rfl 102 (.tmp 5) (.tmp 20) rfl Q5 #[.slice a n c, .int .i64 P2, .int .i64 F2] rfl rfl 102 _ BX sizeRead rfl (by simp [Value.oneCell']) ?_)
  clear BX
  generalize w2.setRow Q5 #[.slice a n c, .int .i64 P2, .int .i64 F2] = W2 at *
  have LD := X.out.loadAt Try.underlying102 rfl sizeRead
  have CC := hid (N3.out W2 (HL.out.below B.out))
  go_wp2_with (refine wpList_load_at 102 rfl (.tmp 5) rfl _ _ rfl _ LD ?_)
  with_reducible refine CC.out.mono ?_
  rintro e w3 ⟨v, rfl, hv, hv2, b1⟩
  obtain ⟨ua, un, uc, rfl, hvg⟩ : ∃ va vn vc, v = .slice va vn vc ∧ (F3 = 0 → ∃ ys, OwnE 138 8 Le.cs W2.heap.size w3 (.slice va vn vc) NL ys ∧ (∀ j (g : j < ys.length), LeSame (VL j) ys[j]) ∧ ∀ y ∈ ys, OwnN W2.heap.size w3 (.slice y.sa y.sl y.sc) y.sl y.co) := by
    by_cases hF : F3 = 0
    · obtain ⟨ys, h, h'⟩ := hv hF
      obtain ⟨va, vc, rfl⟩ := h.form
      exact ⟨va, NL, vc, rfl, fun _ => ⟨ys, h, h'⟩⟩
    · exact ⟨none, 0, 0, hv2 hF, fun h => absurd h hF⟩
  have hss := s.out
  have BX := X.out.below b1
  unfold Blk at BX
  replace X := hid ((X.out.below b1).row #[.slice a n c, .int .i64 P3, .int .i64 F3])
  replace Y := hid ((Y.out.below b1).other (q := Q5) (ds := #[.slice a n c, .int .i64 P3, .int .i64 F3]) (by omega))
  replace G := hid ((G.out.below b1).other (q := Q5) (ds := #[.slice a n c, .int .i64 P3, .int .i64 F3]) (by omega))
  replace OV := hid (fun z => ((OV.out z).below b1).row (q := Q5) (by omega) #[.slice a n c, .int .i64 P3, .int .i64 F3])
  have OL : Hid (F3 = 0 → ∃ ys, OwnE 138 8 Le.cs (Q5 + 1) (w3.setRow Q5 #[.slice a n c, .int .i64 P3, .int .i64 F3]) (.slice ua un uc) NL ys ∧ (∀ j (g : j < ys.length), LeSame (VL j) ys[j]) ∧ ∀ y ∈ ys, OwnN (Q5 + 1) (w3.setRow Q5 #[.slice a n c, .int .i64 P3, .int .i64 F3]) (.slice y.sa y.sl y.sc) y.sl y.co) := fun z => by
    obtain ⟨ys, h1, h2, h3⟩ := hvg z
    exact ⟨ys, (h1.weaken (b' := Q5 + 1) (by omega)).row (q := Q5) (by omega) _, h2, fun y hy => ((h3 y hy).weaken (b' := Q5 + 1) (by omega)).row (q := Q5) (by omega) _⟩
  replace B := hid (setRow_below (q := Q5) (cs := #[.slice a n c, .int .i64 P3, .int .i64 F3]) (B.out.trans (b1.mono B.out.size)) (by omega))
  clear CC LD b1 hv hv2 hvg hss s N3
  go_upto_region 4 with (refine wpList_store_row rfl 102 (.tmp 5) (.tmp 25) rfl Q5 #[.slice a n c, .int .i64 P3, .int .i64 F3] rfl rfl 102 _ BX sizeRead rfl (by simp [Value.oneCell']) ?_)
  clear BX
  generalize w3.setRow Q5 #[.slice a n c, .int .i64 P3, .int .i64 F3] = W3 at *
  have LD := X.out.loadAt Try.underlying102 rfl sizeRead
  have CC := hid (dend_any a n c P3 F3 W3)
  have EE := hid (fun h => endT_err (n := n) (A := P3) (E := F3) h)
  have EZ := hid (fun h => endT_zero (n := n) (A := P3) (E := F3) h)
  generalize hen : endT n P3 F3 = EN at *
  have HEN := hid hen
  clear hen
  obtain ⟨en, ee⟩ := EN
  simp only at CC EE EZ
  go_wp2_with (refine wpList_load_at 102 rfl (.tmp 5) rfl _ _ rfl _ LD ?_)
  with_reducible refine CC.out.mono ?_
  rintro e W4 ⟨rfl, b1⟩
  replace Y := hid (Y.out.below b1)
  replace G := hid (G.out.below b1)
  replace OV := hid (fun z => (OV.out z).below b1)
  replace OL : Hid (F3 = 0 → ∃ ys, OwnE 138 8 Le.cs (Q5 + 1) W4 (.slice ua un uc) NL ys ∧ (∀ j (g : j < ys.length), LeSame (VL j) ys[j]) ∧ ∀ y ∈ ys, OwnN (Q5 + 1) W4 (.slice y.sa y.sl y.sc) y.sl y.co) := fun z => by
    obtain ⟨ys, h1, h2, h3⟩ := OL.out z
    exact ⟨ys, h1.below b1, h2, fun y hy => (h3 y hy).below b1⟩
  replace B := hid (B.out.trans (b1.mono B.out.size))
  clear CC LD b1 X
  by_cases hE : ee = 0
  · obtain ⟨rfl, rfl⟩ : en = 0 ∧ ee = 0 := by have := EZ.out hE; simpa using this
    have hf3 := EE.out rfl
    have hf2 := E2.out hf3
    have OV1 := hid (OV.out hf2)
    have OL1 := hid (OL.out hf3)
    clear EZ EE E2 OV OL hE hf3 hf2
    go_upto_region 7 with fail
    have dy : Blk W4.drew w.heap.size 46 #[.int .i64 0, .int .i64 0, .int .i64 0, .slice none 0 0, .slice none 0 0] := Y.out
    have dg : Blk W4.drew g 2 #[.int .i64 x0, .int .i64 x1, .int .i64 x2] := G.out
    have dv : OwnN (Q5 + 1) W4.drew (.slice va vn vc) NC LL := OV1.out
    have dl : ∃ ys, OwnE 138 8 Le.cs (Q5 + 1) W4.drew (.slice ua un uc) NL ys ∧ (∀ j (g : j < ys.length), LeSame (VL j) ys[j]) ∧ ∀ y ∈ ys, OwnN (Q5 + 1) W4.drew (.slice y.sa y.sl y.sc) y.sl y.co := OL1.out
    have db : Below w.heap.size w W4.drew := B.out.drew
    have DV := hid dv
    have DL := hid dl
    clear Y G OV1 OL1 B dv dl
    refine wp_region_held_drew (S := fun W => Blk W g 2 #[.int .i64 x0, .int .i64 x1, .int .i64 x2]) (by kernel_rfl) dg (fun hHeld => ?_)
    generalize W4.drew = WD at *
    refine wpAnyH_take (i := 0) (v := .slice (some ⟨g, 0, none⟩) 3 3) rfl (by kernel_rfl) (by kernel_rfl) (by kernel_rfl) (fun _ _ _ h => h) (Or.inl ⟨by rfl, ?_⟩) (by assumption) ?_
    · (intro w hSw; (try dsimp only at hSw);  go_simp)
    (try simp only [Act.put, List.getElem_toArray, List.getElem_cons_succ, List.getElem_cons_zero, List.setIfInBounds_toArray, List.set_cons_zero, List.set_cons_succ])
    refine wpAnyH_take (i := 1) (v := .pointer (some ⟨g, 0, none⟩)) rfl (by kernel_rfl) (by kernel_rfl) (by kernel_rfl) (fun _ _ _ h => h) (Or.inl ⟨by rfl, ?_⟩) (by assumption) ?_
    · (intro w hSw; (try dsimp only at hSw);  go_simp)
    (try simp only [Act.put, List.getElem_toArray, List.getElem_cons_succ, List.getElem_cons_zero, List.setIfInBounds_toArray, List.set_cons_zero, List.set_cons_succ])
    refine wpAnyH_take (i := 2) (v := .int .i64 x0) rfl (by kernel_rfl) (by kernel_rfl) (by kernel_rfl) (fun _ _ _ h => h) (Or.inl ⟨by rfl, ?_⟩) (by assumption) ?_
    · (intro w hSw; (try dsimp only at hSw); have hc := hSw.cellAt 0 _ rfl; go_simp)
    (try simp only [Act.put, List.getElem_toArray, List.getElem_cons_succ, List.getElem_cons_zero, List.setIfInBounds_toArray, List.set_cons_zero, List.set_cons_succ])
    refine wpAnyH_take (i := 3) (v := .slice (some ⟨g, 0, none⟩) 3 3) rfl (by kernel_rfl) (by kernel_rfl) (by kernel_rfl) (fun _ _ _ h => h) (Or.inl ⟨by rfl, ?_⟩) (by assumption) ?_
    · (intro w hSw; (try dsimp only at hSw);  go_simp)
    (try simp only [Act.put, List.getElem_toArray, List.getElem_cons_succ, List.getElem_cons_zero, List.setIfInBounds_toArray, List.set_cons_zero, List.set_cons_succ])
    refine wpAnyH_take (i := 4) (v := .pointer (some ⟨g, 1, none⟩)) rfl (by kernel_rfl) (by kernel_rfl) (by kernel_rfl) (fun _ _ _ h => h) (Or.inl ⟨by rfl, ?_⟩) (by assumption) ?_
    · (intro w hSw; (try dsimp only at hSw);  go_simp)
    (try simp only [Act.put, List.getElem_toArray, List.getElem_cons_succ, List.getElem_cons_zero, List.setIfInBounds_toArray, List.set_cons_zero, List.set_cons_succ])
    refine wpAnyH_take (i := 5) (v := .int .i64 x1) rfl (by kernel_rfl) (by kernel_rfl) (by kernel_rfl) (fun _ _ _ h => h) (Or.inl ⟨by rfl, ?_⟩) (by assumption) ?_
    · (intro w hSw; (try dsimp only at hSw); have hc := hSw.cellAt 1 _ rfl; go_simp)
    (try simp only [Act.put, List.getElem_toArray, List.getElem_cons_succ, List.getElem_cons_zero, List.setIfInBounds_toArray, List.set_cons_zero, List.set_cons_succ])
    refine wpAnyH_take (i := 6) (v := .slice (some ⟨g, 0, none⟩) 3 3) rfl (by kernel_rfl) (by kernel_rfl) (by kernel_rfl) (fun _ _ _ h => h) (Or.inl ⟨by rfl, ?_⟩) (by assumption) ?_
    · (intro w hSw; (try dsimp only at hSw);  go_simp)
    (try simp only [Act.put, List.getElem_toArray, List.getElem_cons_succ, List.getElem_cons_zero, List.setIfInBounds_toArray, List.set_cons_zero, List.set_cons_succ])
    refine wpAnyH_take (i := 7) (v := .pointer (some ⟨g, 2, none⟩)) rfl (by kernel_rfl) (by kernel_rfl) (by kernel_rfl) (fun _ _ _ h => h) (Or.inl ⟨by rfl, ?_⟩) (by assumption) ?_
    · (intro w hSw; (try dsimp only at hSw);  go_simp)
    (try simp only [Act.put, List.getElem_toArray, List.getElem_cons_succ, List.getElem_cons_zero, List.setIfInBounds_toArray, List.set_cons_zero, List.set_cons_succ])
    refine wpAnyH_take (i := 8) (v := .int .i64 x2) rfl (by kernel_rfl) (by kernel_rfl) (by kernel_rfl) (fun _ _ _ h => h) (Or.inl ⟨by rfl, ?_⟩) (by assumption) ?_
    · (intro w hSw; (try dsimp only at hSw); have hc := hSw.cellAt 2 _ rfl; go_simp)
    (try simp only [Act.put, List.getElem_toArray, List.getElem_cons_succ, List.getElem_cons_zero, List.setIfInBounds_toArray, List.set_cons_zero, List.set_cons_succ])
    refine wpAnyH_take (i := 9) (v := .slice va vn vc) rfl (by kernel_rfl) (by kernel_rfl) (by kernel_rfl) (fun _ _ _ h => h) (Or.inl ⟨by rfl, ?_⟩) (by assumption) ?_
    · (intro w hSw; (try dsimp only at hSw);  go_simp)
    (try simp only [Act.put, List.getElem_toArray, List.getElem_cons_succ, List.getElem_cons_zero, List.setIfInBounds_toArray, List.set_cons_zero, List.set_cons_succ])
    refine wpAnyH_take (i := 10) (v := .slice ua un uc) rfl (by kernel_rfl) (by kernel_rfl) (by kernel_rfl) (fun _ _ _ h => h) (Or.inl ⟨by rfl, ?_⟩) (by assumption) ?_
    · (intro w hSw; (try dsimp only at hSw);  go_simp)
    (try simp only [Act.put, List.getElem_toArray, List.getElem_cons_succ, List.getElem_cons_zero, List.setIfInBounds_toArray, List.set_cons_zero, List.set_cons_succ])
    refine wpAnyH_take (i := 11) (v := .agg #[.int .i64 x0, .int .i64 x1, .int .i64 x2, .slice va vn vc, .slice ua un uc]) rfl (by kernel_rfl) (by kernel_rfl) (by kernel_rfl) (fun _ _ _ h => h) (yieldsIf_build (by rfl) _ _ rfl #[.int .i64 x0, .int .i64 x1, .int .i64 x2, .slice va vn vc, .slice ua un uc] (by kernel_rfl)) (by assumption) ?_
    (try simp only [Act.put, List.getElem_toArray, List.getElem_cons_succ, List.getElem_cons_zero, List.setIfInBounds_toArray, List.set_cons_zero, List.set_cons_succ])
    refine wpAnyH_take (i := 12) (v := .int .i64 0) rfl (by kernel_rfl) (by kernel_rfl) (by kernel_rfl) (fun _ _ _ h => h) (Or.inl ⟨by rfl, ?_⟩) (by assumption) ?_
    · (intro w hSw; (try dsimp only at hSw);  go_simp)
    (try simp only [Act.put, List.getElem_toArray, List.getElem_cons_succ, List.getElem_cons_zero, List.setIfInBounds_toArray, List.set_cons_zero, List.set_cons_succ])
    refine wpAnyH_ready (rs := [13]) (by kernel_rfl) (by simp) ?_
    refine AllReadyH.cons rfl (fun K hK => ?_) AllReadyH.nil
    refine storeRow_step rfl 46 (.tmp 2) (.tmp 48) rfl w.heap.size #[.int .i64 x0, .int .i64 x1, .int .i64 x2, .slice va vn vc, .slice ua un uc] rfl rfl 46 _ dy sizeAns rfl (by simp [Value.oneCell']) ?_
    refine hK.out _ _ (dg.other (by omega)) (fun hHeld => ?_)
    clear hK K
    (try simp only [Act.put, List.getElem_toArray, List.getElem_cons_succ, List.getElem_cons_zero, List.setIfInBounds_toArray, List.set_cons_zero, List.set_cons_succ])
    refine wpAnyH_take (i := 14) (v := .int .i64 0) rfl (by kernel_rfl) (by kernel_rfl) (by kernel_rfl) (fun _ _ _ h => h) (Or.inl ⟨by rfl, ?_⟩) (by assumption) ?_
    · (intro w hSw; (try dsimp only at hSw);  go_simp)
    (try simp only [Act.put, List.getElem_toArray, List.getElem_cons_succ, List.getElem_cons_zero, List.setIfInBounds_toArray, List.set_cons_zero, List.set_cons_succ])
    refine wpAnyH_take (i := 15) (v := .int .i64 0) rfl (by kernel_rfl) (by kernel_rfl) (by kernel_rfl) (fun _ _ _ h => h) (Or.inl ⟨by rfl, ?_⟩) (by assumption) ?_
    · (intro w hSw; (try dsimp only at hSw);  go_simp)
    (try simp only [Act.put, List.getElem_toArray, List.getElem_cons_succ, List.getElem_cons_zero, List.setIfInBounds_toArray, List.set_cons_zero, List.set_cons_succ])
    refine wpAnyH_done (by kernel_rfl) ?_ _
    clear hHeld
    go_wp2_with fail
    refine bodyPost_ret (results_cell3 rfl rfl ((dy.row _).loadVar Try.underlying46 rfl sizeAns)) rfl ?_
    rw [HEN.out]
    refine ⟨_, rfl, fun h => absurd rfl h, fun _ => ?_, setRow_below db (Nat.le_refl _)⟩
    obtain ⟨ys, h1, h2, h3⟩ := DL.out
    exact FIN.out _ _ _ _ ys ((DV.out.row (by omega) _).weaken (by omega)) ⟨(h1.row (by omega) _).weaken (by omega), h2, fun y hy => ((h3 y hy).row (by omega) _).weaken (by omega)⟩
  · have tE : (ee != 0) = true := by simpa using hE
    have BY := Y.out
    unfold Blk at BY
    have HE := hid hE
    clear EZ EE E2 OV OL hE G
    go_wp2_with (first | refine wpList_built rfl 46 _ rfl #[.int .i64 0, .int .i64 0, .int .i64 0, .slice none 0 0, .slice none 0 0] (by kernel_rfl) ?_ | refine wpList_store_row rfl 46 (.tmp 2) (.tmp 34) rfl w.heap.size #[.int .i64 0, .int .i64 0, .int .i64 0, .slice none 0 0, .slice none 0 0] rfl rfl 46 _ BY sizeAns rfl (by simp [Value.oneCell']) ?_)
    refine bodyPost_ret (results_cell3 rfl rfl ((Y.out.row _).loadVar Try.underlying46 rfl sizeAns)) rfl ?_
    rw [HEN.out]
    exact ⟨_, rfl, fun _ => rfl, fun h => absurd h HE.out, setRow_below B.out (Nat.le_refl _)⟩
end Go.Proofs.Ythkbddnkcljjpaa

namespace Go.Proofs.Ythkbddnkcljjpaa
open Go.RowKit Go.Deep Go.Maps
set_option linter.unusedVariables false
set_option linter.unusedSimpArgs false
theorem holdsLit {α : Type} {k : Nat} {enc : α → List Value} (hk : ∀ x, (enc x).length = k) {W : World} {b : Nat} {cs : Array Value} {t : TypeId} {fr : Nat × Nat} {l : List α} (hb : W.heap[b]? = some (.cells cs t fr)) (e : cs.toList = l.flatMap enc) (hl : l.length ≤ 64) : HoldsE k enc W (some ⟨b, 0, none⟩) l.length l.length l :=
  ⟨rfl, Nat.le_refl _, by omega, (fun h => by cases h), fun _ => ⟨b, 0, rfl, (Array.getElem?_eq_some_iff.1 hb).1, fun j x hx i v hv => by
    rw [Nat.zero_add, cell_of_row W b _ cs t fr hb, ← Array.getElem?_toList, e]
    exact flat_get hk l j x i v hx hv⟩⟩
theorem appH_step {α : Type} {k : Nat} {enc : α → List Value} {ops : Array Oper} {o : Oper} {a : Act} {Q : Exit → Act → World → Prop} {K : Act → World → Prop} (T e : TypeId) (z : Value) (bytes : Nat) (hk : ∀ x, (enc x).length = k) (h1 : ∀ x, ∀ u ∈ enc x, u.oneCell' = true) (hT : Try.prog.underlying T = some (.slice e)) (hI : (Try.prog.info? e).map (fun i => (i.zero, i.size, i.bytes)) = some (some z, k, bytes)) (hz : z.cells.size = k) (hk0 : 0 < k)
    (wr : World) (hg : o.guard = none) (s y : Operand) (hop : o.op = Op.call { callee := Callee.builtin Builtin.append, args := #[s, y], argTypes := #[T, T] })
    (base n : Nat) (v : Value) (l : List α) (hs : a.eval s = v) (hown : OwnE e k enc base wr v n l) (hb : base ≤ wr.heap.size) (ao : Option Addr) (m c : Nat) (p : List α) (hx : a.eval y = .slice ao m c) (hp : HoldsE k enc wr ao m c p) (b0 : n + m ≤ 9223372036854775807) (b1 : (n + m) * bytes ≤ 140737488355328)
    (hK : ∀ v' w', OwnE e k enc base w' v' (n + m) (l ++ p) → Below base wr w' → wr.grownBy w' v.ownBlock → K (a.put o.dst v') w') :
    if Region.wanted o (yielded ops a.tmps) = true then Oper.wp Try.prog o a wr K Q else K (a.put o.dst undef) wr := by
  rw [if_pos (by simp [Region.wanted, hg])]
  obtain ⟨i0, hi, hz0, hz1, hz2⟩ := info_parts hI
  obtain ⟨p1, p2, p3, p6, p7⟩ := hp
  have hrow : ∀ g, v.ownBlock = some g → base ≤ g := fun g hk => (hown.lt g hk).1
  unfold Oper.wp
  by_cases hm : 0 < m
  · obtain ⟨b, off, rfl, hlt, hc⟩ := p7 hm
    obtain ⟨v', w', hrun, h3, h2, _⟩ := run_append_own (P := Try.prog) wr base T o.type e i0 z k bytes hT hi hz0 hz1 hz2 hz hk0 v n _ hown.2 ⟨b, off, none⟩ m c (p.flatMap enc) (by rw [flat_len hk, p1]) (by
      intro j u hj
      obtain ⟨j', x, i, rfl, hx, hu⟩ := flat_inv hk _ _ _ hj
      rw [Addr.add_lit, ← Nat.add_assoc]
      exact hc j' x hx i u hu) (by
      intro u hu
      obtain ⟨x, _, hx⟩ := List.mem_flatMap.1 hu
      exact h1 x u hx) (by unfold maxLen; omega) b1 hb
    simp [execOp, hop, resolve, invoke, builtin, hs, hx, hrun, Result.andThen]
    exact hK v' w' ⟨by simp [hown.len, p1], by simpa using h3⟩ ((Below.refl base wr).grown h2 hb hrow) h2
  · obtain rfl : m = 0 := by omega
    obtain rfl : p = [] := List.length_eq_zero_iff.1 p1
    cases ao with
    | none =>
      obtain ⟨_, rfl⟩ := p6 rfl
      have hrun := run_append_owned_none (P := Try.prog) (w := wr) base T o.type e i0 k hT hi v n _ hown.2
      simp [execOp, hop, resolve, invoke, builtin, hs, hx, hrun, Result.andThen]
      exact hK v wr (by simpa using hown) (Below.refl _ _) (World.grownBy.refl _ _)
    | some ad =>
      obtain ⟨v', w', hrun, h3, h2, _⟩ := run_append_own (P := Try.prog) wr base T o.type e i0 z k bytes hT hi hz0 hz1 hz2 hz hk0 v n _ hown.2 ad 0 c [] (by simp) (by simp) (by simp) (by unfold maxLen; omega) b1 hb
      simp [execOp, hop, resolve, invoke, builtin, hs, hx, hrun, Result.andThen]
      exact hK v' w' ⟨by simp [hown.len], by simpa using h3⟩ ((Below.refl base wr).grown h2 hb hrow) h2
end Go.Proofs.Ythkbddnkcljjpaa

namespace Go.Proofs.Ythkbddnkcljjpaa
open Go.RowKit Go.Deep Go.Maps
set_option linter.unusedVariables false
set_option linter.unusedSimpArgs false
set_option maxRecDepth 100000 in
theorem alloc_sta (w : World) : (Instr.alloc 54 true (.tuple #[])).run Try.prog w = .ok (.pointer (some ⟨w.heap.size, 0, none⟩)) (w.alloc (.cells #[.int .i64 0, .int .i64 0, .int .i64 0, .slice none 0 0, .slice none 0 0, .slice none 0 0, .slice none 0 0, .slice none 0 0] 54)) := by kernel_rfl
theorem endH {n : Nat} {A E : Int} : ∀ {x y : Int}, (x, y) = endT n A E → y = 0 → E = 0 := fun h e => endT_err (n := n) (A := A) (by rw [← h]; exact e)
set_option maxRecDepth 100000 in
set_option maxHeartbeats 16000000 in
theorem ddocstate_any (a : Option Addr) (n c : Nat) (l : List Int) (w : World) (hl : HoldsB w a n c l) :
    Calls Try.prog 28 #[.slice a n c] w fun e w' => ∃ cs, e = .returned (.tuple #[.agg cs, .int .i64 (endT n (sHB l 0 0).1 (sHB l 0 0).2).1, .int .i64 (endT n (sHB l 0 0).1 (sHB l 0 0).2).2]) ∧ ((endT n (sHB l 0 0).1 (sHB l 0 0).2).2 ≠ 0 → cs = #[.int .i64 0, .int .i64 0, .int .i64 0, .slice none 0 0, .slice none 0 0, .slice none 0 0, .slice none 0 0, .slice none 0 0]) ∧ ((endT n (sHB l 0 0).1 (sHB l 0 0).2).2 = 0 → StO l 0 0 w.heap.size w' cs) ∧ Below w.heap.size w w' := by
  have HL := hid hl
  have hlen := hl.1
  have hnm := hl.2.1
  have a1 := lsS_at (pe := tkI l) (n := n) (A := 0) (E := 0) (fun A E h0 h1 => by have := tkI_at l A E h0 (by omega); omega) (by omega) (by omega) 3
  have N1 := hid (fun W (H : HoldsB W a n c l) => dnums3_any a n c l 0 0 W H (by omega) (by omega))
  have EA : Hid (sHB l 0 0 = liF (rdH l) l (liF (rdL l) l (liF (rdT l) l (liF (rdN l) l (liF (rdQ l) l (lsS (tkI l) 0 0 3).1 (lsS (tkI l) 0 0 3).2).1 (liF (rdQ l) l (lsS (tkI l) 0 0 3).1 (lsS (tkI l) 0 0 3).2).2).1 (liF (rdN l) l (liF (rdQ l) l (lsS (tkI l) 0 0 3).1 (lsS (tkI l) 0 0 3).2).1 (liF (rdQ l) l (lsS (tkI l) 0 0 3).1 (lsS (tkI l) 0 0 3).2).2).2).1 (liF (rdT l) l (liF (rdN l) l (liF (rdQ l) l (lsS (tkI l) 0 0 3).1 (lsS (tkI l) 0 0 3).2).1 (liF (rdQ l) l (lsS (tkI l) 0 0 3).1 (lsS (tkI l) 0 0 3).2).2).1 (liF (rdN l) l (liF (rdQ l) l (lsS (tkI l) 0 0 3).1 (lsS (tkI l) 0 0 3).2).1 (liF (rdQ l) l (lsS (tkI l) 0 0 3).1 (lsS (tkI l) 0 0 3).2).2).2).2).1 (liF (rdL l) l (liF (rdT l) l (liF (rdN l) l (liF (rdQ l) l (lsS (tkI l) 0 0 3).1 (lsS (tkI l) 0 0 3).2).1 (liF (rdQ l) l (lsS (tkI l) 0 0 3).1 (lsS (tkI l) 0 0 3).2).2).1 (liF (rdN l) l (liF (rdQ l) l (lsS (tkI l) 0 0 3).1 (lsS (tkI l) 0 0 3).2).1 (liF (rdQ l) l (lsS (tkI l) 0 0 3).1 (lsS (tkI l) 0 0 3).2).2).2).1 (liF (rdT l) l (liF (rdN l) l (liF (rdQ l) l (lsS (tkI l) 0 0 3).1 (lsS (tkI l) 0 0 3).2).1 (liF (rdQ l) l (lsS (tkI l) 0 0 3).1 (lsS (tkI l) 0 0 3).2).2).1 (liF (rdN l) l (liF (rdQ l) l (lsS (tkI l) 0 0 3).1 (lsS (tkI l) 0 0 3).2).1 (liF (rdQ l) l (lsS (tkI l) 0 0 3).1 (lsS (tkI l) 0 0 3).2).2).2).2).2) := by unfold Hid sHB sLB sTB sNB sQB s0B; simp only [tkc_ls]
  have FIN : Hid (∀ (base : Nat) (W : World) (vQ vN vT vL vH : Value) (yT : List T7) (yL : List Le), OwnE 25 7 Q7.cs base W vQ (liC (rdQ l) l (s0B l 0 0).1 (s0B l 0 0).2) (liL (rdQ l) l (s0B l 0 0).1 (s0B l 0 0).2) → OwnE 27 5 N5.cs base W vN (liC (rdN l) l (sQB l 0 0).1 (sQB l 0 0).2) (liL (rdN l) l (sQB l 0 0).1 (sQB l 0 0).2) → (OwnE 30 7 T7.cs base W vT (liC (rdT l) l (sNB l 0 0).1 (sNB l 0 0).2) yT ∧ (∀ j (g : j < yT.length), TaSame (liV (rdT l) l (sNB l 0 0).1 (sNB l 0 0).2 j) yT[j]) ∧ (∀ y ∈ yT, OwnN base W (.slice y.sa y.sl y.sc) y.sl y.tk)) → (OwnE 138 8 Le.cs base W vL (liC (rdL l) l (sTB l 0 0).1 (sTB l 0 0).2) yL ∧ (∀ j (g : j < yL.length), LeSame (liV (rdL l) l (sTB l 0 0).1 (sTB l 0 0).2 j) yL[j]) ∧ (∀ y ∈ yL, OwnN base W (.slice y.sa y.sl y.sc) y.sl y.co)) → OwnE 94 2 H2.cs base W vH (liC (rdH l) l (sLB l 0 0).1 (sLB l 0 0).2) (liL (rdH l) l (sLB l 0 0).1 (sLB l 0 0).2) → StO l 0 0 base W #[.int .i64 (lsV (tkI l) 0 0 0), .int .i64 (lsV (tkI l) 0 0 1), .int .i64 (lsV (tkI l) 0 0 2), vQ, vN, vT, vL, vH]) := by
    intro base W vQ vN vT vL vH yT yL h1 h2 h3 h4 h5
    refine ⟨vQ, vN, vT, vL, vH, yT, yL, ?_, h1, h2, h3, h4, h5⟩
    simp only [tkc_ls]
  unfold sHB sLB sTB sNB sQB s0B at FIN
  simp only [tkc_ls] at FIN
  rw [EA.out]
  clear EA
  generalize lsV (tkI l) 0 0 0 = x0 at *
  generalize lsV (tkI l) 0 0 1 = x1 at *
  generalize lsV (tkI l) 0 0 2 = x2 at *
  have STOR : Hid (∀ (b q : Nat) (W : World) (cs : Array Value), q < b → StO l 0 0 b W cs → StO l 0 0 q (W.setRow q cs) cs) := fun b q W cs h1 h => (h.row h1 cs).weaken (by omega)
  generalize StO l 0 0 = STO at *
  generalize lsS (tkI l) 0 0 3 = S1 at *
  obtain ⟨P1, F1⟩ := S1
  simp only at N1 FIN a1 ⊢
  have a2 := liF_at (pe := rdQ l) (l := l) (A := P1) (E := F1) (fun A E h0 h1 => rdQ_at l A E h0 h1) a1.1 (by omega)
  have E1 := hid (fun h => liF_err (pe := rdQ l) (l := l) (A := P1) (E := F1) h)
  obtain ⟨CQ, SQ, VQ, cQ, TQ, KQ, XQ⟩ := dq_loop a n c l P1 F1 w hl a1.1 (by omega)
  replace TQ := hid TQ
  replace KQ := hid KQ
  replace XQ := hid XQ
  generalize liC (rdQ l) l P1 F1 = MQ at *
  generalize liL (rdQ l) l P1 F1 = LQ at *
  generalize liF (rdQ l) l P1 F1 = U2 at *
  obtain ⟨P2, F2⟩ := U2
  simp only at E1 XQ FIN a2 ⊢
  have a3 := liF_at (pe := rdN l) (l := l) (A := P2) (E := F2) (fun A E h0 h1 => rdN_at l A E h0 h1) a2.1 (by omega)
  have E2 := hid (fun h => liF_err (pe := rdN l) (l := l) (A := P2) (E := F2) h)
  obtain ⟨CN, SN, VN, cN, TN, KN, XN⟩ := dn_loop a n c l P2 F2 w hl a2.1 (by omega)
  replace TN := hid TN
  replace KN := hid KN
  replace XN := hid XN
  generalize liC (rdN l) l P2 F2 = MN at *
  generalize liL (rdN l) l P2 F2 = LN at *
  generalize liF (rdN l) l P2 F2 = U3 at *
  obtain ⟨P3, F3⟩ := U3
  simp only at E2 XN FIN a3 ⊢
  have a4 := liF_at (pe := rdT l) (l := l) (A := P3) (E := F3) (fun A E h0 h1 => rdT_at l A E h0 h1) a3.1 (by omega)
  have E3 := hid (fun h => liF_err (pe := rdT l) (l := l) (A := P3) (E := F3) h)
  obtain ⟨CT, ST, VT, cT, TT, KT, XT⟩ := dt_loop a n c l P3 F3 w hl a3.1 (by omega)
  replace TT := hid TT
  replace KT := hid KT
  replace XT := hid XT
  generalize liC (rdT l) l P3 F3 = MT at *
  generalize liV (rdT l) l P3 F3 = LT at *
  generalize liF (rdT l) l P3 F3 = U4 at *
  obtain ⟨P4, F4⟩ := U4
  simp only at E3 XT FIN a4 ⊢
  have a5 := liF_at (pe := rdL l) (l := l) (A := P4) (E := F4) (fun A E h0 h1 => rdL_at l A E h0 h1) a4.1 (by omega)
  have E4 := hid (fun h => liF_err (pe := rdL l) (l := l) (A := P4) (E := F4) h)
  have NL := hid (fun W (H : HoldsB W a n c l) => dsome_any a n c l P4 F4 W H a4.1 (by omega))
  generalize liC (rdL l) l P4 F4 = ML at *
  generalize liV (rdL l) l P4 F4 = LL at *
  generalize liF (rdL l) l P4 F4 = U5 at *
  obtain ⟨P5, F5⟩ := U5
  simp only at E4 NL FIN a5 ⊢
  have a6 := liF_at (pe := rdH l) (l := l) (A := P5) (E := F5) (fun A E h0 h1 => rdH_at l A E h0 h1) a5.1 (by omega)
  have E5 := hid (fun h => liF_err (pe := rdH l) (l := l) (A := P5) (E := F5) h)
  obtain ⟨CH, SH, VH, cH, TH, KH, XH⟩ := dh_loop a n c l P5 F5 w hl a5.1 (by omega)
  replace TH := hid TH
  replace KH := hid KH
  replace XH := hid XH
  generalize liC (rdH l) l P5 F5 = MH at *
  generalize liL (rdH l) l P5 F5 = LH at *
  generalize liF (rdH l) l P5 F5 = U6 at *
  obtain ⟨P6, F6⟩ := U6
  simp only at E5 XH FIN a6 ⊢
  clear a1 a2 a3 a4 a5 a6 hl
  go_enter Try.func28, Try.ntmps28
  go_upto_region 1 with fail
  have B := hid ((Below.refl w.heap.size w).alloc (Nat.le_refl _) (.cells #[.int .i64 0, .int .i64 0, .int .i64 0, .slice none 0 0, .slice none 0 0, .slice none 0 0, .slice none 0 0, .slice none 0 0] 54))
  have Y := hid (Blk.alloc w #[.int .i64 0, .int .i64 0, .int .i64 0, .slice none 0 0, .slice none 0 0, .slice none 0 0, .slice none 0 0, .slice none 0 0] (54))
  have s : Hid (w.heap.size + 1 ≤ (w.alloc (.cells #[.int .i64 0, .int .i64 0, .int .i64 0, .slice none 0 0, .slice none 0 0, .slice none 0 0, .slice none 0 0, .slice none 0 0] 54)).heap.size) := by unfold Hid; simp
  generalize (w.alloc (.cells #[.int .i64 0, .int .i64 0, .int .i64 0, .slice none 0 0, .slice none 0 0, .slice none 0 0, .slice none 0 0, .slice none 0 0] 54)) = W0 at *
  have CC := hid (N1.out W0 (HL.out.below B.out))
  go_wp2_with (refine wpList_built rfl 102 _ rfl #[.slice a n c, .int .i64 0, .int .i64 0] (by kernel_rfl) ?_)
  with_reducible refine CC.out.mono ?_
  rintro e w1 ⟨g, rfl, hg, hb, b1⟩
  have hg1 : w.heap.size + 1 ≤ g := by have := s.out; omega
  have hg2 := hb.lt
  have b2 := (Below.refl w1.heap.size w1).alloc (Nat.le_refl _) (.cells #[.slice a n c, .int .i64 P1, .int .i64 F1] 102)
  have X := hid (Blk.alloc w1 #[.slice a n c, .int .i64 P1, .int .i64 F1] (102))
  replace Y := hid ((Y.out.below b1).below b2)
  have G := hid (hb.below b2)
  have q5 : w.heap.size + 1 ≤ w1.heap.size := by have := s.out; have := b1.size; omega
  replace B := hid ((B.out.trans (b1.mono B.out.size)).trans (b2.mono (B.out.trans (b1.mono B.out.size)).size))
  replace s : Hid (w1.heap.size + 1 ≤ (w1.alloc (.cells #[.slice a n c, .int .i64 P1, .int .i64 F1] 102)).heap.size) := by unfold Hid; simp
  clear CC b1 b2 hb hg N1
  go_upto_region 2 with (refine wpList_store_row rfl 102 (.tmp 5) (.tmp 23) rfl w1.heap.size #[.slice a n c, .int .i64 P1, .int .i64 F1] rfl rfl 102 _ (heap_alloc_new w1 _) sizeRead rfl (by simp [Value.oneCell']) ?_)
  rw [alloc_row]
  generalize w1.alloc (.cells #[.slice a n c, .int .i64 P1, .int .i64 F1] 102) = W1 at *
  generalize w1.heap.size = Q5 at *
  have dg : Blk W1.drew g 2 #[.int .i64 x0, .int .i64 x1, .int .i64 x2] := G.out
  have dX := hid (show Blk W1.drew Q5 102 #[.slice a n c, .int .i64 P1, .int .i64 F1] from X.out)
  have dY := hid (show Blk W1.drew w.heap.size 54 #[.int .i64 0, .int .i64 0, .int .i64 0, .slice none 0 0, .slice none 0 0, .slice none 0 0, .slice none 0 0, .slice none 0 0] from Y.out)
  have dB := hid (show Below w.heap.size w W1.drew from B.out.drew)
  have ds := hid (show Q5 + 1 ≤ W1.drew.heap.size from s.out)
  clear X Y B s G
  go_cut [7] from 25 to 34 (fun v7 wx => ∃ QS, v7 = .pointer (some ⟨QS, 0, none⟩) ∧ Q5 + 1 ≤ QS ∧ Hid (Blk wx QS 54 #[.int .i64 x0, .int .i64 x1, .int .i64 x2, .slice none 0 0, .slice none 0 0, .slice none 0 0, .slice none 0 0, .slice none 0 0]) ∧ Hid (Blk wx Q5 102 #[.slice a n c, .int .i64 P1, .int .i64 F1]) ∧ Hid (Blk wx w.heap.size 54 #[.int .i64 0, .int .i64 0, .int .i64 0, .slice none 0 0, .slice none 0 0, .slice none 0 0, .slice none 0 0, .slice none 0 0]) ∧ Hid (Below w.heap.size w wx))
  case first =>
    refine wp_region_held_drew (S := fun W => Blk W g 2 #[.int .i64 x0, .int .i64 x1, .int .i64 x2]) (by kernel_rfl) dg (fun hHeld => ?_)
    generalize W1.drew = WD at *
    refine wpAnyH_take (i := 0) (v := .slice (some ⟨g, 0, none⟩) 3 3) rfl (by kernel_rfl) (by kernel_rfl) (by kernel_rfl) (fun _ _ _ h => h) (Or.inl ⟨by rfl, ?_⟩) (by assumption) ?_
    · (intro w hSw; (try dsimp only at hSw);  go_simp)
    (try simp only [Act.put, List.getElem_toArray, List.getElem_cons_succ, List.getElem_cons_zero, List.setIfInBounds_toArray, List.set_cons_zero, List.set_cons_succ])
    refine wpAnyH_take (i := 1) (v := .pointer (some ⟨g, 0, none⟩)) rfl (by kernel_rfl) (by kernel_rfl) (by kernel_rfl) (fun _ _ _ h => h) (Or.inl ⟨by rfl, ?_⟩) (by assumption) ?_
    · (intro w hSw; (try dsimp only at hSw);  go_simp)
    (try simp only [Act.put, List.getElem_toArray, List.getElem_cons_succ, List.getElem_cons_zero, List.setIfInBounds_toArray, List.set_cons_zero, List.set_cons_succ])
    refine wpAnyH_take (i := 2) (v := .int .i64 x0) rfl (by kernel_rfl) (by kernel_rfl) (by kernel_rfl) (fun _ _ _ h => h) (Or.inl ⟨by rfl, ?_⟩) (by assumption) ?_
    · (intro w hSw; (try dsimp only at hSw); have hc := hSw.cellAt 0 _ rfl; go_simp)
    (try simp only [Act.put, List.getElem_toArray, List.getElem_cons_succ, List.getElem_cons_zero, List.setIfInBounds_toArray, List.set_cons_zero, List.set_cons_succ])
    refine wpAnyH_take (i := 3) (v := .slice (some ⟨g, 0, none⟩) 3 3) rfl (by kernel_rfl) (by kernel_rfl) (by kernel_rfl) (fun _ _ _ h => h) (Or.inl ⟨by rfl, ?_⟩) (by assumption) ?_
    · (intro w hSw; (try dsimp only at hSw);  go_simp)
    (try simp only [Act.put, List.getElem_toArray, List.getElem_cons_succ, List.getElem_cons_zero, List.setIfInBounds_toArray, List.set_cons_zero, List.set_cons_succ])
    refine wpAnyH_take (i := 4) (v := .pointer (some ⟨g, 1, none⟩)) rfl (by kernel_rfl) (by kernel_rfl) (by kernel_rfl) (fun _ _ _ h => h) (Or.inl ⟨by rfl, ?_⟩) (by assumption) ?_
    · (intro w hSw; (try dsimp only at hSw);  go_simp)
    (try simp only [Act.put, List.getElem_toArray, List.getElem_cons_succ, List.getElem_cons_zero, List.setIfInBounds_toArray, List.set_cons_zero, List.set_cons_succ])
    refine wpAnyH_take (i := 5) (v := .int .i64 x1) rfl (by kernel_rfl) (by kernel_rfl) (by kernel_rfl) (fun _ _ _ h => h) (Or.inl ⟨by rfl, ?_⟩) (by assumption) ?_
    · (intro w hSw; (try dsimp only at hSw); have hc := hSw.cellAt 1 _ rfl; go_simp)
    (try simp only [Act.put, List.getElem_toArray, List.getElem_cons_succ, List.getElem_cons_zero, List.setIfInBounds_toArray, List.set_cons_zero, List.set_cons_succ])
    refine wpAnyH_take (i := 6) (v := .slice (some ⟨g, 0, none⟩) 3 3) rfl (by kernel_rfl) (by kernel_rfl) (by kernel_rfl) (fun _ _ _ h => h) (Or.inl ⟨by rfl, ?_⟩) (by assumption) ?_
    · (intro w hSw; (try dsimp only at hSw);  go_simp)
    (try simp only [Act.put, List.getElem_toArray, List.getElem_cons_succ, List.getElem_cons_zero, List.setIfInBounds_toArray, List.set_cons_zero, List.set_cons_succ])
    refine wpAnyH_take (i := 7) (v := .pointer (some ⟨g, 2, none⟩)) rfl (by kernel_rfl) (by kernel_rfl) (by kernel_rfl) (fun _ _ _ h => h) (Or.inl ⟨by rfl, ?_⟩) (by assumption) ?_
    · (intro w hSw; (try dsimp only at hSw);  go_simp)
    (try simp only [Act.put, List.getElem_toArray, List.getElem_cons_succ, List.getElem_cons_zero, List.setIfInBounds_toArray, List.set_cons_zero, List.set_cons_succ])
    refine wpAnyH_take (i := 8) (v := .int .i64 x2) rfl (by kernel_rfl) (by kernel_rfl) (by kernel_rfl) (fun _ _ _ h => h) (Or.inl ⟨by rfl, ?_⟩) (by assumption) ?_
    · (intro w hSw; (try dsimp only at hSw); have hc := hSw.cellAt 2 _ rfl; go_simp)
    (try simp only [Act.put, List.getElem_toArray, List.getElem_cons_succ, List.getElem_cons_zero, List.setIfInBounds_toArray, List.set_cons_zero, List.set_cons_succ])
    refine wpAnyH_take (i := 9) (v := .agg #[.int .i64 x0, .int .i64 x1, .int .i64 x2, .slice none 0 0, .slice none 0 0, .slice none 0 0, .slice none 0 0, .slice none 0 0]) rfl (by kernel_rfl) (by kernel_rfl) (by kernel_rfl) (fun _ _ _ h => h) (yieldsIf_build (by rfl) _ _ rfl #[.int .i64 x0, .int .i64 x1, .int .i64 x2, .slice none 0 0, .slice none 0 0, .slice none 0 0, .slice none 0 0, .slice none 0 0] (by kernel_rfl)) (by assumption) ?_
    (try simp only [Act.put, List.getElem_toArray, List.getElem_cons_succ, List.getElem_cons_zero, List.setIfInBounds_toArray, List.set_cons_zero, List.set_cons_succ])
    refine wpAnyH_ready (rs := [10]) (by kernel_rfl) (by simp) ?_
    refine AllReadyH.cons rfl (fun K hK => ?_) AllReadyH.nil
    refine alloc_step rfl 54 #[.int .i64 0, .int .i64 0, .int .i64 0, .slice none 0 0, .slice none 0 0, .slice none 0 0, .slice none 0 0, .slice none 0 0] rfl (alloc_sta _) ?_
    have b := (Below.refl WD.heap.size WD).alloc (Nat.le_refl _) (.cells #[.int .i64 0, .int .i64 0, .int .i64 0, .slice none 0 0, .slice none 0 0, .slice none 0 0, .slice none 0 0, .slice none 0 0] 54)
    have NZ := Blk.alloc WD #[.int .i64 0, .int .i64 0, .int .i64 0, .slice none 0 0, .slice none 0 0, .slice none 0 0, .slice none 0 0, .slice none 0 0] (54)
    have eX := hid (dX.out.below b)
    have eY := hid (dY.out.below b)
    have eg := dg.below b
    have eB := hid (dB.out.alloc dB.out.size (.cells #[.int .i64 0, .int .i64 0, .int .i64 0, .slice none 0 0, .slice none 0 0, .slice none 0 0, .slice none 0 0, .slice none 0 0] 54))
    have hq := ds.out
    have hgl := dg.lt
    clear b dX dY dg dB ds
    generalize WD.alloc (.cells #[.int .i64 0, .int .i64 0, .int .i64 0, .slice none 0 0, .slice none 0 0, .slice none 0 0, .slice none 0 0, .slice none 0 0] 54) = WE at *
    generalize WD.heap.size = QS at *
    refine hK.out _ _ eg (fun hHeld => ?_)
    clear hK K
    (try simp only [Act.put, List.getElem_toArray, List.getElem_cons_succ, List.getElem_cons_zero, List.setIfInBounds_toArray, List.set_cons_zero, List.set_cons_succ])
    refine wpAnyH_ready (rs := [11]) (by kernel_rfl) (by simp) ?_
    refine AllReadyH.cons rfl (fun K hK => ?_) AllReadyH.nil
    refine storeRow_step rfl 54 (.tmp 7) (.tmp 34) rfl QS #[.int .i64 x0, .int .i64 x1, .int .i64 x2, .slice none 0 0, .slice none 0 0, .slice none 0 0, .slice none 0 0, .slice none 0 0] rfl rfl 54 _ NZ sizeSta rfl (by simp [Value.oneCell']) ?_
    refine hK.out _ _ (eg.other (by omega)) (fun hHeld => ?_)
    clear hK K
    (try simp only [Act.put, List.getElem_toArray, List.getElem_cons_succ, List.getElem_cons_zero, List.setIfInBounds_toArray, List.set_cons_zero, List.set_cons_succ])
    refine wpAnyH_done (by kernel_rfl) ?_ _
    clear hHeld
    go_wp2_with fail
    go_meet
    exact ⟨QS, rfl, hq, NZ.row _, eX.out.other (by omega), eY.out.other (by omega), setRow_below eB.out (by omega)⟩
  case rest =>
  obtain ⟨QS, rfl, q7, Z, X, Y, B⟩ := hcut
  clear dg dX dY dB ds hg1 hg2
  have s : Hid (QS + 1 ≤ wc.heap.size) := Z.out.lt
  have HP1 : Hid ((fun _ : World => True) wc) := trivial
  obtain ⟨PP1, KP, HP, DP1⟩ : ∃ P : World → Prop, Hid (Keeps 25 (QS + 1) P ∧ Keeps 27 (QS + 1) P ∧ Keeps 30 (QS + 1) P ∧ Keeps 94 (QS + 1) P) ∧ Hid (P wc) ∧ Hid (∀ W, P W → True) := ⟨fun _ => True, ⟨Keeps.true _ _, Keeps.true _ _, Keeps.true _ _, Keeps.true _ _⟩, trivial, fun _ _ => trivial⟩
  clear HP1
  generalize wc = W2 at *
  have LD := X.out.loadAt Try.underlying102 rfl sizeRead
  have CC := hid (TQ.out W2 (HL.out.below B.out))
  go_wp2_with (refine wpList_load_at 102 rfl (.tmp 5) rfl _ _ rfl _ LD ?_)
  with_reducible refine CC.out.mono ?_
  rintro e w1 ⟨rfl, b1⟩
  have BX := X.out.below b1
  unfold Blk at BX
  replace HP := hid (KP.out.1.2.1 _ Q5 _ _ #[.slice a n c, .int .i64 (SQ 0).1, .int .i64 (SQ 0).2] (KP.out.1.1 _ _ HP.out b1) (X.out.below b1) (Or.inr rfl))
  replace Z := hid ((Z.out.below b1).other (q := Q5) (ds := #[.slice a n c, .int .i64 (SQ 0).1, .int .i64 (SQ 0).2]) (by omega))
  replace Y := hid ((Y.out.below b1).other (q := Q5) (ds := #[.slice a n c, .int .i64 (SQ 0).1, .int .i64 (SQ 0).2]) (by omega))
  replace X := hid ((X.out.below b1).row #[.slice a n c, .int .i64 (SQ 0).1, .int .i64 (SQ 0).2])
  replace B := hid (setRow_below (q := Q5) (cs := #[.slice a n c, .int .i64 (SQ 0).1, .int .i64 (SQ 0).2]) (B.out.trans (b1.mono B.out.size)) (by omega))
  replace s : Hid (QS + 1 ≤ (w1.setRow Q5 #[.slice a n c, .int .i64 (SQ 0).1, .int .i64 (SQ 0).2]).heap.size) := by unfold Hid; have := s.out; have := b1.size; simp; omega
  clear CC LD b1 TQ
  go_upto_block 0 with (refine wpList_store_row rfl 102 (.tmp 5) (.tmp 38) rfl Q5 #[.slice a n c, .int .i64 (SQ 0).1, .int .i64 (SQ 0).2] rfl rfl 102 _ BX sizeRead rfl (by simp [Value.oneCell']) ?_)
  clear BX
  generalize w1.setRow Q5 #[.slice a n c, .int .i64 (SQ 0).1, .int .i64 (SQ 0).2] = W2 at *
  obtain ⟨PK, PH⟩ : Hid (Keeps 25 (QS + 1) PP1) ∧ Hid (PP1 W2) := ⟨KP.out.1, HP.out⟩
  go_cut [] from 8 to 60 (fun wx => ∃ k va vc, Hid (F2 = 0 → OwnE 25 7 Q7.cs (QS + 1) wx (.slice va k vc) MQ LQ) ∧ Hid (Blk wx Q5 102 #[.slice a n c, .int .i64 P2, .int .i64 F2]) ∧ Hid (Blk wx QS 54 #[.int .i64 x0, .int .i64 x1, .int .i64 x2, .slice va k vc, .slice none 0 0, .slice none 0 0, .slice none 0 0, .slice none 0 0]) ∧ Hid (Blk wx w.heap.size 54 #[.int .i64 0, .int .i64 0, .int .i64 0, .slice none 0 0, .slice none 0 0, .slice none 0 0, .slice none 0 0, .slice none 0 0]) ∧ Hid (Below w.heap.size w wx) ∧ Hid (QS + 1 ≤ wx.heap.size) ∧ Hid (PP1 wx))
  case first =>
    go_wp2_with fail
    go_loopw [9] (fun i wr => ∃ k : Nat, k ≤ CQ ∧ i = .int .i64 (k : Int) ∧ ∃ va vc, Hid (OwnE 25 7 Q7.cs (QS + 1) wr (.slice va k vc) k ((List.range k).map VQ)) ∧ Hid (∀ j, j < k → (SQ j).2 = 0) ∧ Hid (Blk wr Q5 102 #[.slice a n c, .int .i64 (SQ k).1, .int .i64 (SQ k).2]) ∧ Hid (Blk wr QS 54 #[.int .i64 x0, .int .i64 x1, .int .i64 x2, .slice va k vc, .slice none 0 0, .slice none 0 0, .slice none 0 0, .slice none 0 0]) ∧ Hid (Blk wr w.heap.size 54 #[.int .i64 0, .int .i64 0, .int .i64 0, .slice none 0 0, .slice none 0 0, .slice none 0 0, .slice none 0 0, .slice none 0 0]) ∧ Hid (Below w.heap.size w wr) ∧ Hid (QS + 1 ≤ wr.heap.size) ∧ Hid (PP1 wr)) (fun i _ => CQ - (intOf i).toNat)
    case atStart => exact ⟨0, by omega, rfl, none, 0, OwnE.nil _ _ _ _ _, (fun j h => absurd h (by omega)), X, Z, Y, B, s, PH⟩
    case round =>
      clear X Z Y B s PH HP KP
      obtain ⟨k, hk, rfl, va, vc, O, J, X, Z, Y, B, s, PH⟩ := hrel
      have ka : (0 : Int) ≤ (k : Int) := by omega
      by_cases hc : k < CQ ∧ (SQ k).2 = 0
      · have kb : (k : Int) < (CQ : Int) := by omega
        have kl := hc.1
        have CK := hid (fun W H => KQ.out k W H)
        have J1 : Hid (∀ j, j < k + 1 → (SQ j).2 = 0) := fun j hj => by
          rcases Nat.lt_or_ge j k with h | h
          · exact J.out j h
          · rw [show j = k by omega]; exact hc.2
        have SNO : Hid ((List.range (k + 1)).map VQ = (List.range k).map VQ ++ [VQ k]) := by unfold Hid; rw [List.range_succ, List.map_append]; rfl
        have OL := hid O.out.len
        have EZ := hid hc.2
        rw [EZ.out] at X CK
        clear hc J
        have EP : Hid (∃ A E, (SQ (k + 1)).1 = A ∧ (SQ (k + 1)).2 = E) := ⟨_, _, rfl, rfl⟩
        obtain ⟨A1, E1, hA1, hE1⟩ := EP.out
        rw [hA1, hE1] at CK
        have HA1 := hid hA1
        have HE1 := hid hE1
        clear hA1 hE1 EP
        generalize (SQ k).1 = Ak at *
        generalize hvk : VQ k = vk at CK SNO
        obtain ⟨za, zb, zc, zd, ze, zf, zg⟩ := vk
        have HV := hid hvk
        clear hvk
        generalize (List.range k).map VQ = LV at *
        have c2 := X.out.cellAt 2 (.int .i64 0) rfl
        go_upto_region 8 with fail
        have ba := (Below.refl wr.heap.size wr).alloc (Nat.le_refl _) (.cells #[.int .i64 0, .int .i64 0, .int .i64 0, .int .i64 0, .int .i64 0, .int .i64 0, .int .i64 0] 25)
        have T := hid (Blk.alloc wr #[.int .i64 0, .int .i64 0, .int .i64 0, .int .i64 0, .int .i64 0, .int .i64 0, .int .i64 0] (25))
        have q6 : QS + 1 ≤ wr.heap.size := s.out
        have QO := hid (fun g e => (O.out.lt g e).2)
        replace X := hid (X.out.below ba)
        replace Z := hid (Z.out.below ba)
        replace Y := hid (Y.out.below ba)
        replace O := hid (O.out.below ba)
        replace PH := hid (PK.out.1 _ _ PH.out ba)
        replace B := hid (B.out.trans (ba.mono B.out.size))
        replace s : Hid (wr.heap.size + 1 ≤ (wr.alloc (.cells #[.int .i64 0, .int .i64 0, .int .i64 0, .int .i64 0, .int .i64 0, .int .i64 0, .int .i64 0] 25)).heap.size) := by unfold Hid; simp
        clear ba c2
        generalize wr.alloc (.cells #[.int .i64 0, .int .i64 0, .int .i64 0, .int .i64 0, .int .i64 0, .int .i64 0, .int .i64 0] 25) = wA at *
        generalize wr.heap.size = Q6 at *
        have LD := X.out.loadAt Try.underlying102 rfl sizeRead
        have CC := hid (CK.out wA (HL.out.below B.out))
        go_wp2_with (refine wpList_load_at 102 rfl (.tmp 5) rfl _ _ rfl _ LD ?_)
        with_reducible refine CC.out.mono ?_
        rintro e w1 ⟨rfl, b1⟩
        have BX := X.out.below b1
        unfold Blk at BX
        have B6 := (T.out.below b1).other (q := Q5) (ds := #[.slice a n c, .int .i64 A1, .int .i64 E1]) (by omega)
        have TB := hid B6
        have XB := hid ((X.out.below b1).row #[.slice a n c, .int .i64 A1, .int .i64 E1])
        replace O := hid (((O.out.below b1).blk (X.out.below b1) (by decide) #[.slice a n c, .int .i64 A1, .int .i64 E1]).rowN (q := Q6) #[.int .i64 za, .int .i64 zb, .int .i64 zc, .int .i64 zd, .int .i64 ze, .int .i64 zf, .int .i64 zg] (fun g e => by have := QO.out g e; omega))
        replace PH := hid (PK.out.2.1 _ Q6 _ _ #[.int .i64 za, .int .i64 zb, .int .i64 zc, .int .i64 zd, .int .i64 ze, .int .i64 zf, .int .i64 zg] (PK.out.2.1 _ Q5 _ _ #[.slice a n c, .int .i64 A1, .int .i64 E1] (PK.out.1 _ _ PH.out b1) (X.out.below b1) (Or.inr rfl)) B6 (Or.inl rfl))
        replace Z := hid (((Z.out.below b1).other (q := Q5) (ds := #[.slice a n c, .int .i64 A1, .int .i64 E1]) (by omega)).other (q := Q6) (ds := #[.int .i64 za, .int .i64 zb, .int .i64 zc, .int .i64 zd, .int .i64 ze, .int .i64 zf, .int .i64 zg]) (by omega))
        replace Y := hid (((Y.out.below b1).other (q := Q5) (ds := #[.slice a n c, .int .i64 A1, .int .i64 E1]) (by omega)).other (q := Q6) (ds := #[.int .i64 za, .int .i64 zb, .int .i64 zc, .int .i64 zd, .int .i64 ze, .int .i64 zf, .int .i64 zg]) (by omega))
        replace X := hid (XB.out.other (q := Q6) (ds := #[.int .i64 za, .int .i64 zb, .int .i64 zc, .int .i64 zd, .int .i64 ze, .int .i64 zf, .int .i64 zg]) (by omega))
        replace T := hid (TB.out.row #[.int .i64 za, .int .i64 zb, .int .i64 zc, .int .i64 zd, .int .i64 ze, .int .i64 zf, .int .i64 zg])
        replace B := hid (setRow_below (q := Q6) (cs := #[.int .i64 za, .int .i64 zb, .int .i64 zc, .int .i64 zd, .int .i64 ze, .int .i64 zf, .int .i64 zg]) (setRow_below (q := Q5) (cs := #[.slice a n c, .int .i64 A1, .int .i64 E1]) (B.out.trans (b1.mono B.out.size)) (by omega)) (by omega))
        replace s : Hid (QS + 1 ≤ ((w1.setRow Q5 #[.slice a n c, .int .i64 A1, .int .i64 E1]).setRow Q6 #[.int .i64 za, .int .i64 zb, .int .i64 zc, .int .i64 zd, .int .i64 ze, .int .i64 zf, .int .i64 zg]).heap.size) := by unfold Hid; have := s.out; have := b1.size; simp; omega
        unfold Blk at B6
        clear CC LD b1 XB TB CK QO
        go_upto_region 9 with (first | refine wpList_store_row rfl 102 (.tmp 5) (.tmp 53) rfl Q5 #[.slice a n c, .int .i64 A1, .int .i64 E1] rfl rfl 102 _ BX sizeRead rfl (by simp [Value.oneCell']) ?_ | refine wpList_store_row rfl 25 (.tmp 10) (.tmp 54) rfl Q6 #[.int .i64 za, .int .i64 zb, .int .i64 zc, .int .i64 zd, .int .i64 ze, .int .i64 zf, .int .i64 zg] rfl rfl 25 _ B6 sizeQue rfl (by simp [Value.oneCell']) ?_)
        clear BX B6
        generalize (w1.setRow Q5 #[.slice a n c, .int .i64 A1, .int .i64 E1]).setRow Q6 #[.int .i64 za, .int .i64 zb, .int .i64 zc, .int .i64 zd, .int .i64 ze, .int .i64 zf, .int .i64 zg] = w3 at *
        have y3 := Z.out.cellAt 3 (.slice va k vc) rfl
        have LD := T.out.loadAt Try.underlying25 rfl sizeQue
        go_wp2_with (first | refine wpList_load_at 25 rfl (.tmp 10) rfl _ _ rfl _ LD ?_ | (at_builtin; refine push_ownE 49 25 _ 56 Q7.cs_len Q7.one Try.underlying49 infQ rfl (by decide) w3 (⟨za, zb, zc, zd, ze, zf, zg⟩ : Q7) rfl (.tmp 56) (.tmp 58) rfl (QS + 1) k (.slice va k vc) LV #[.int .i64 za, .int .i64 zb, .int .i64 zc, .int .i64 zd, .int .i64 ze, .int .i64 zf, .int .i64 zg] rfl rfl O.out s.out (by simp [Act.eval]) (by omega) (by omega) ?_))
        intro v4 w4 h4 b4 g4
        obtain ⟨va4, vc4, rfl⟩ := h4.form
        replace PH := hid (PK.out.2.2.2 _ _ _ _ _ _ _ _ _ PH.out O.out g4)
        replace O := hid h4
        replace X := hid (X.out.low b4 (by omega))
        replace Z := hid (Z.out.low b4 (by omega))
        replace Y := hid (Y.out.low b4 (by omega))
        replace B := hid (B.out.trans (b4.mono (by omega)))
        replace s : Hid (QS + 1 ≤ w4.heap.size) := by unfold Hid; have := b4.size; have := s.out; omega
        clear h4 b4 g4 LD y3 T
        have y := Z.out.cellAt 3 (.slice va k vc) rfl
        have ff : w4.frozen? ⟨QS, 3, none⟩ = false := Z.out.froz
        go_upto_region 6 with fail
        replace Z : Hid (Blk (w4.setCell ⟨QS, 3, none⟩ (.slice va4 (k + 1) vc4)) QS 54 #[.int .i64 x0, .int .i64 x1, .int .i64 x2, .slice va4 (k + 1) vc4, .slice none 0 0, .slice none 0 0, .slice none 0 0, .slice none 0 0]) := Z.out.put (i := 3) (.slice va4 (k + 1) vc4)
        replace X := hid (X.out.cellO ⟨QS, 3, none⟩ (.slice va4 (k + 1) vc4) (by show Q5 ≠ QS; omega))
        replace Y := hid (Y.out.cellO ⟨QS, 3, none⟩ (.slice va4 (k + 1) vc4) (by show w.heap.size ≠ QS; omega))
        replace O := hid (O.out.cellO ⟨QS, 3, none⟩ (.slice va4 (k + 1) vc4) (by show QS < QS + 1; omega))
        replace PH := hid (PK.out.2.2.1 _ ⟨QS, 3, none⟩ (.slice va4 (k + 1) vc4) PH.out (by show QS < QS + 1; omega))
        replace B := hid (B.out.setCell (p := ⟨QS, 3, none⟩) (by show w.heap.size ≤ QS; omega) (.slice va4 (k + 1) vc4))
        replace s : Hid (QS + 1 ≤ (w4.setCell ⟨QS, 3, none⟩ (.slice va4 (k + 1) vc4)).heap.size) := by unfold Hid; have := s.out; simpa using this
        clear y ff
        generalize w4.setCell ⟨QS, 3, none⟩ (.slice va4 (k + 1) vc4) = w5 at *
        go_wp2_with fail
        refine ⟨⟨k + 1, by omega, by go_num, va4, vc4, (by rw [SNO.out]; exact O), J1, (by rw [HA1.out, HE1.out]; exact X), Z, Y, B, s, PH⟩, ?_⟩
        simp [intOf]; omega
      · have EX := XQ.out k hk J.out (by rcases Nat.lt_or_ge k CQ with h | h; exact Or.inr (fun e => hc ⟨h, e⟩); exact Or.inl h)
        have X9 : Hid (Blk wr Q5 102 #[.slice a n c, .int .i64 P2, .int .i64 F2]) := by
          have e1 : P2 = (SQ k).1 := congrArg Prod.fst EX.1
          have e2 : F2 = (SQ k).2 := congrArg Prod.snd EX.1
          rw [e1, e2]; exact X
        have e2 : F2 = (SQ k).2 := congrArg Prod.snd EX.1
        have O9 : Hid (F2 = 0 → OwnE 25 7 Q7.cs (QS + 1) wr (.slice va k vc) MQ LQ) := fun h => by rw [e2] at h; obtain ⟨h1, h2⟩ := EX.2 h; rw [h1, h2]; exact O.out
        by_cases hlt : k < CQ
        · have kb : (k : Int) < (CQ : Int) := by omega
          have tE : ((SQ k).2 == 0) = false := by
            have h : ¬ (SQ k).2 = 0 := fun e => hc ⟨hlt, e⟩
            simpa using h
          clear hc EX e2
          have c2 := X.out.cellAt 2 (.int .i64 (SQ k).2) rfl
          go_wp2_with fail
          go_meet
          exact ⟨k, va, vc, O9, X9, Z, Y, B, s, PH⟩
        · have kb : ¬ (k : Int) < (CQ : Int) := by omega
          clear hc EX e2
          go_wp2_with fail
          go_meet
          exact ⟨k, va, vc, O9, X9, Z, Y, B, s, PH⟩
  case rest =>
  clear X Z Y B s PH HP PK KQ XQ cQ
  obtain ⟨kQ, vaQ, vcQ, O, X, Z, Y, B, s, HP⟩ := hcut
  obtain ⟨PP2, KP', HP', DP2⟩ : ∃ P : World → Prop, Hid (True ∧ Keeps 27 (QS + 1) P ∧ Keeps 30 (QS + 1) P ∧ Keeps 94 (QS + 1) P) ∧ Hid (P wc) ∧ Hid (∀ W, P W → PP1 W ∧ (F2 = 0 → OwnE 25 7 Q7.cs (QS + 1) W (.slice vaQ kQ vcQ) MQ LQ)) := ⟨fun W => PP1 W ∧ (F2 = 0 → OwnE 25 7 Q7.cs (QS + 1) W (.slice vaQ kQ vcQ) MQ LQ), ⟨trivial, (KP.out.2.1.and (Keeps.own ⟨by decide, by decide⟩).imp), (KP.out.2.2.1.and (Keeps.own ⟨by decide, by decide⟩).imp), (KP.out.2.2.2.and (Keeps.own ⟨by decide, by decide⟩).imp)⟩, ⟨HP.out, O.out⟩, fun W h => h⟩
  clear KP HP O
  have KP := KP'
  have HP := HP'
  clear KP' HP'
  generalize wc = W2 at *
  have LD := X.out.loadAt Try.underlying102 rfl sizeRead
  have CC := hid (TN.out W2 (HL.out.below B.out))
  go_wp2_with (refine wpList_load_at 102 rfl (.tmp 5) rfl _ _ rfl _ LD ?_)
  with_reducible refine CC.out.mono ?_
  rintro e w1 ⟨rfl, b1⟩
  have BX := X.out.below b1
  unfold Blk at BX
  replace HP := hid (KP.out.2.1.2.1 _ Q5 _ _ #[.slice a n c, .int .i64 (SN 0).1, .int .i64 (SN 0).2] (KP.out.2.1.1 _ _ HP.out b1) (X.out.below b1) (Or.inr rfl))
  replace Z := hid ((Z.out.below b1).other (q := Q5) (ds := #[.slice a n c, .int .i64 (SN 0).1, .int .i64 (SN 0).2]) (by omega))
  replace Y := hid ((Y.out.below b1).other (q := Q5) (ds := #[.slice a n c, .int .i64 (SN 0).1, .int .i64 (SN 0).2]) (by omega))
  replace X := hid ((X.out.below b1).row #[.slice a n c, .int .i64 (SN 0).1, .int .i64 (SN 0).2])
  replace B := hid (setRow_below (q := Q5) (cs := #[.slice a n c, .int .i64 (SN 0).1, .int .i64 (SN 0).2]) (B.out.trans (b1.mono B.out.size)) (by omega))
  replace s : Hid (QS + 1 ≤ (w1.setRow Q5 #[.slice a n c, .int .i64 (SN 0).1, .int .i64 (SN 0).2]).heap.size) := by unfold Hid; have := s.out; have := b1.size; simp; omega
  clear CC LD b1 TN
  go_upto_block 2 with (refine wpList_store_row rfl 102 (.tmp 5) (.tmp 64) rfl Q5 #[.slice a n c, .int .i64 (SN 0).1, .int .i64 (SN 0).2] rfl rfl 102 _ BX sizeRead rfl (by simp [Value.oneCell']) ?_)
  clear BX
  generalize w1.setRow Q5 #[.slice a n c, .int .i64 (SN 0).1, .int .i64 (SN 0).2] = W2 at *
  obtain ⟨PK, PH⟩ : Hid (Keeps 27 (QS + 1) PP2) ∧ Hid (PP2 W2) := ⟨KP.out.2.1, HP.out⟩
  go_cut [] from 8 to 86 (fun wx => ∃ k va vc, Hid (F3 = 0 → OwnE 27 5 N5.cs (QS + 1) wx (.slice va k vc) MN LN) ∧ Hid (Blk wx Q5 102 #[.slice a n c, .int .i64 P3, .int .i64 F3]) ∧ Hid (Blk wx QS 54 #[.int .i64 x0, .int .i64 x1, .int .i64 x2, .slice vaQ kQ vcQ, .slice va k vc, .slice none 0 0, .slice none 0 0, .slice none 0 0]) ∧ Hid (Blk wx w.heap.size 54 #[.int .i64 0, .int .i64 0, .int .i64 0, .slice none 0 0, .slice none 0 0, .slice none 0 0, .slice none 0 0, .slice none 0 0]) ∧ Hid (Below w.heap.size w wx) ∧ Hid (QS + 1 ≤ wx.heap.size) ∧ Hid (PP2 wx))
  case first =>
    go_wp2_with fail
    go_loopw [11] (fun i wr => ∃ k : Nat, k ≤ CN ∧ i = .int .i64 (k : Int) ∧ ∃ va vc, Hid (OwnE 27 5 N5.cs (QS + 1) wr (.slice va k vc) k ((List.range k).map VN)) ∧ Hid (∀ j, j < k → (SN j).2 = 0) ∧ Hid (Blk wr Q5 102 #[.slice a n c, .int .i64 (SN k).1, .int .i64 (SN k).2]) ∧ Hid (Blk wr QS 54 #[.int .i64 x0, .int .i64 x1, .int .i64 x2, .slice vaQ kQ vcQ, .slice va k vc, .slice none 0 0, .slice none 0 0, .slice none 0 0]) ∧ Hid (Blk wr w.heap.size 54 #[.int .i64 0, .int .i64 0, .int .i64 0, .slice none 0 0, .slice none 0 0, .slice none 0 0, .slice none 0 0, .slice none 0 0]) ∧ Hid (Below w.heap.size w wr) ∧ Hid (QS + 1 ≤ wr.heap.size) ∧ Hid (PP2 wr)) (fun i _ => CN - (intOf i).toNat)
    case atStart => exact ⟨0, by omega, rfl, none, 0, OwnE.nil _ _ _ _ _, (fun j h => absurd h (by omega)), X, Z, Y, B, s, PH⟩
    case round =>
      clear X Z Y B s PH HP KP
      obtain ⟨k, hk, rfl, va, vc, O, J, X, Z, Y, B, s, PH⟩ := hrel
      have ka : (0 : Int) ≤ (k : Int) := by omega
      by_cases hc : k < CN ∧ (SN k).2 = 0
      · have kb : (k : Int) < (CN : Int) := by omega
        have kl := hc.1
        have CK := hid (fun W H => KN.out k W H)
        have J1 : Hid (∀ j, j < k + 1 → (SN j).2 = 0) := fun j hj => by
          rcases Nat.lt_or_ge j k with h | h
          · exact J.out j h
          · rw [show j = k by omega]; exact hc.2
        have SNO : Hid ((List.range (k + 1)).map VN = (List.range k).map VN ++ [VN k]) := by unfold Hid; rw [List.range_succ, List.map_append]; rfl
        have OL := hid O.out.len
        have EZ := hid hc.2
        rw [EZ.out] at X CK
        clear hc J
        have EP : Hid (∃ A E, (SN (k + 1)).1 = A ∧ (SN (k + 1)).2 = E) := ⟨_, _, rfl, rfl⟩
        obtain ⟨A1, E1, hA1, hE1⟩ := EP.out
        rw [hA1, hE1] at CK
        have HA1 := hid hA1
        have HE1 := hid hE1
        clear hA1 hE1 EP
        generalize (SN k).1 = Ak at *
        generalize hvk : VN k = vk at CK SNO
        obtain ⟨n1, n2, n3, n4, n5⟩ := vk
        have HV := hid hvk
        clear hvk
        generalize (List.range k).map VN = LV at *
        have c2 := X.out.cellAt 2 (.int .i64 0) rfl
        go_upto_region 15 with fail
        have ba := (Below.refl wr.heap.size wr).alloc (Nat.le_refl _) (.cells #[.int .i64 0, .int .i64 0, .int .i64 0, .int .i64 0, .int .i64 0] 27)
        have T := hid (Blk.alloc wr #[.int .i64 0, .int .i64 0, .int .i64 0, .int .i64 0, .int .i64 0] (27))
        have q6 : QS + 1 ≤ wr.heap.size := s.out
        have QO := hid (fun g e => (O.out.lt g e).2)
        replace X := hid (X.out.below ba)
        replace Z := hid (Z.out.below ba)
        replace Y := hid (Y.out.below ba)
        replace O := hid (O.out.below ba)
        replace PH := hid (PK.out.1 _ _ PH.out ba)
        replace B := hid (B.out.trans (ba.mono B.out.size))
        replace s : Hid (wr.heap.size + 1 ≤ (wr.alloc (.cells #[.int .i64 0, .int .i64 0, .int .i64 0, .int .i64 0, .int .i64 0] 27)).heap.size) := by unfold Hid; simp
        clear ba c2
        generalize wr.alloc (.cells #[.int .i64 0, .int .i64 0, .int .i64 0, .int .i64 0, .int .i64 0] 27) = wA at *
        generalize wr.heap.size = Q6 at *
        have LD := X.out.loadAt Try.underlying102 rfl sizeRead
        have CC := hid (CK.out wA (HL.out.below B.out))
        go_wp2_with (refine wpList_load_at 102 rfl (.tmp 5) rfl _ _ rfl _ LD ?_)
        with_reducible refine CC.out.mono ?_
        rintro e w1 ⟨rfl, b1⟩
        have BX := X.out.below b1
        unfold Blk at BX
        have B6 := (T.out.below b1).other (q := Q5) (ds := #[.slice a n c, .int .i64 A1, .int .i64 E1]) (by omega)
        have TB := hid B6
        have XB := hid ((X.out.below b1).row #[.slice a n c, .int .i64 A1, .int .i64 E1])
        replace O := hid (((O.out.below b1).blk (X.out.below b1) (by decide) #[.slice a n c, .int .i64 A1, .int .i64 E1]).rowN (q := Q6) #[.int .i64 n1, .int .i64 n2, .int .i64 n3, .int .i64 n4, .int .i64 n5] (fun g e => by have := QO.out g e; omega))
        replace PH := hid (PK.out.2.1 _ Q6 _ _ #[.int .i64 n1, .int .i64 n2, .int .i64 n3, .int .i64 n4, .int .i64 n5] (PK.out.2.1 _ Q5 _ _ #[.slice a n c, .int .i64 A1, .int .i64 E1] (PK.out.1 _ _ PH.out b1) (X.out.below b1) (Or.inr rfl)) B6 (Or.inl rfl))
        replace Z := hid (((Z.out.below b1).other (q := Q5) (ds := #[.slice a n c, .int .i64 A1, .int .i64 E1]) (by omega)).other (q := Q6) (ds := #[.int .i64 n1, .int .i64 n2, .int .i64 n3, .int .i64 n4, .int .i64 n5]) (by omega))
        replace Y := hid (((Y.out.below b1).other (q := Q5) (ds := #[.slice a n c, .int .i64 A1, .int .i64 E1]) (by omega)).other (q := Q6) (ds := #[.int .i64 n1, .int .i64 n2, .int .i64 n3, .int .i64 n4, .int .i64 n5]) (by omega))
        replace X := hid (XB.out.other (q := Q6) (ds := #[.int .i64 n1, .int .i64 n2, .int .i64 n3, .int .i64 n4, .int .i64 n5]) (by omega))
        replace T := hid (TB.out.row #[.int .i64 n1, .int .i64 n2, .int .i64 n3, .int .i64 n4, .int .i64 n5])
        replace B := hid (setRow_below (q := Q6) (cs := #[.int .i64 n1, .int .i64 n2, .int .i64 n3, .int .i64 n4, .int .i64 n5]) (setRow_below (q := Q5) (cs := #[.slice a n c, .int .i64 A1, .int .i64 E1]) (B.out.trans (b1.mono B.out.size)) (by omega)) (by omega))
        replace s : Hid (QS + 1 ≤ ((w1.setRow Q5 #[.slice a n c, .int .i64 A1, .int .i64 E1]).setRow Q6 #[.int .i64 n1, .int .i64 n2, .int .i64 n3, .int .i64 n4, .int .i64 n5]).heap.size) := by unfold Hid; have := s.out; have := b1.size; simp; omega
        unfold Blk at B6
        clear CC LD b1 XB TB CK QO
        go_upto_region 16 with (first | refine wpList_store_row rfl 102 (.tmp 5) (.tmp 79) rfl Q5 #[.slice a n c, .int .i64 A1, .int .i64 E1] rfl rfl 102 _ BX sizeRead rfl (by simp [Value.oneCell']) ?_ | refine wpList_store_row rfl 27 (.tmp 12) (.tmp 80) rfl Q6 #[.int .i64 n1, .int .i64 n2, .int .i64 n3, .int .i64 n4, .int .i64 n5] rfl rfl 27 _ B6 sizeNod rfl (by simp [Value.oneCell']) ?_)
        clear BX B6
        generalize (w1.setRow Q5 #[.slice a n c, .int .i64 A1, .int .i64 E1]).setRow Q6 #[.int .i64 n1, .int .i64 n2, .int .i64 n3, .int .i64 n4, .int .i64 n5] = w3 at *
        have y3 := Z.out.cellAt 4 (.slice va k vc) rfl
        have LD := T.out.loadAt Try.underlying27 rfl sizeNod
        go_wp2_with (first | refine wpList_load_at 27 rfl (.tmp 12) rfl _ _ rfl _ LD ?_ | (at_builtin; refine push_ownE 50 27 _ 40 N5.cs_len N5.one Try.underlying50 infN rfl (by decide) w3 (⟨n1, n2, n3, n4, n5⟩ : N5) rfl (.tmp 82) (.tmp 84) rfl (QS + 1) k (.slice va k vc) LV #[.int .i64 n1, .int .i64 n2, .int .i64 n3, .int .i64 n4, .int .i64 n5] rfl rfl O.out s.out (by simp [Act.eval]) (by omega) (by omega) ?_))
        intro v4 w4 h4 b4 g4
        obtain ⟨va4, vc4, rfl⟩ := h4.form
        replace PH := hid (PK.out.2.2.2 _ _ _ _ _ _ _ _ _ PH.out O.out g4)
        replace O := hid h4
        replace X := hid (X.out.low b4 (by omega))
        replace Z := hid (Z.out.low b4 (by omega))
        replace Y := hid (Y.out.low b4 (by omega))
        replace B := hid (B.out.trans (b4.mono (by omega)))
        replace s : Hid (QS + 1 ≤ w4.heap.size) := by unfold Hid; have := b4.size; have := s.out; omega
        clear h4 b4 g4 LD y3 T
        have y := Z.out.cellAt 4 (.slice va k vc) rfl
        have ff : w4.frozen? ⟨QS, 4, none⟩ = false := Z.out.froz
        go_upto_region 13 with fail
        replace Z : Hid (Blk (w4.setCell ⟨QS, 4, none⟩ (.slice va4 (k + 1) vc4)) QS 54 #[.int .i64 x0, .int .i64 x1, .int .i64 x2, .slice vaQ kQ vcQ, .slice va4 (k + 1) vc4, .slice none 0 0, .slice none 0 0, .slice none 0 0]) := Z.out.put (i := 4) (.slice va4 (k + 1) vc4)
        replace X := hid (X.out.cellO ⟨QS, 4, none⟩ (.slice va4 (k + 1) vc4) (by show Q5 ≠ QS; omega))
        replace Y := hid (Y.out.cellO ⟨QS, 4, none⟩ (.slice va4 (k + 1) vc4) (by show w.heap.size ≠ QS; omega))
        replace O := hid (O.out.cellO ⟨QS, 4, none⟩ (.slice va4 (k + 1) vc4) (by show QS < QS + 1; omega))
        replace PH := hid (PK.out.2.2.1 _ ⟨QS, 4, none⟩ (.slice va4 (k + 1) vc4) PH.out (by show QS < QS + 1; omega))
        replace B := hid (B.out.setCell (p := ⟨QS, 4, none⟩) (by show w.heap.size ≤ QS; omega) (.slice va4 (k + 1) vc4))
        replace s : Hid (QS + 1 ≤ (w4.setCell ⟨QS, 4, none⟩ (.slice va4 (k + 1) vc4)).heap.size) := by unfold Hid; have := s.out; simpa using this
        clear y ff
        generalize w4.setCell ⟨QS, 4, none⟩ (.slice va4 (k + 1) vc4) = w5 at *
        go_wp2_with fail
        refine ⟨⟨k + 1, by omega, by go_num, va4, vc4, (by rw [SNO.out]; exact O), J1, (by rw [HA1.out, HE1.out]; exact X), Z, Y, B, s, PH⟩, ?_⟩
        simp [intOf]; omega
      · have EX := XN.out k hk J.out (by rcases Nat.lt_or_ge k CN with h | h; exact Or.inr (fun e => hc ⟨h, e⟩); exact Or.inl h)
        have X9 : Hid (Blk wr Q5 102 #[.slice a n c, .int .i64 P3, .int .i64 F3]) := by
          have e1 : P3 = (SN k).1 := congrArg Prod.fst EX.1
          have e2 : F3 = (SN k).2 := congrArg Prod.snd EX.1
          rw [e1, e2]; exact X
        have e2 : F3 = (SN k).2 := congrArg Prod.snd EX.1
        have O9 : Hid (F3 = 0 → OwnE 27 5 N5.cs (QS + 1) wr (.slice va k vc) MN LN) := fun h => by rw [e2] at h; obtain ⟨h1, h2⟩ := EX.2 h; rw [h1, h2]; exact O.out
        by_cases hlt : k < CN
        · have kb : (k : Int) < (CN : Int) := by omega
          have tE : ((SN k).2 == 0) = false := by
            have h : ¬ (SN k).2 = 0 := fun e => hc ⟨hlt, e⟩
            simpa using h
          clear hc EX e2
          have c2 := X.out.cellAt 2 (.int .i64 (SN k).2) rfl
          go_wp2_with fail
          go_meet
          exact ⟨k, va, vc, O9, X9, Z, Y, B, s, PH⟩
        · have kb : ¬ (k : Int) < (CN : Int) := by omega
          clear hc EX e2
          go_wp2_with fail
          go_meet
          exact ⟨k, va, vc, O9, X9, Z, Y, B, s, PH⟩
  case rest =>
  clear X Z Y B s PH HP PK KN XN cN
  obtain ⟨kN, vaN, vcN, O, X, Z, Y, B, s, HP⟩ := hcut
  obtain ⟨PP3, KP', HP', DP3⟩ : ∃ P : World → Prop, Hid (True ∧ True ∧ Keeps 30 (QS + 1) P ∧ Keeps 94 (QS + 1) P) ∧ Hid (P wc) ∧ Hid (∀ W, P W → PP2 W ∧ (F3 = 0 → OwnE 27 5 N5.cs (QS + 1) W (.slice vaN kN vcN) MN LN)) := ⟨fun W => PP2 W ∧ (F3 = 0 → OwnE 27 5 N5.cs (QS + 1) W (.slice vaN kN vcN) MN LN), ⟨trivial, trivial, (KP.out.2.2.1.and (Keeps.own ⟨by decide, by decide⟩).imp), (KP.out.2.2.2.and (Keeps.own ⟨by decide, by decide⟩).imp)⟩, ⟨HP.out, O.out⟩, fun W h => h⟩
  clear KP HP O
  have KP := KP'
  have HP := HP'
  clear KP' HP'
  generalize wc = W2 at *
  have LD := X.out.loadAt Try.underlying102 rfl sizeRead
  have CC := hid (TT.out W2 (HL.out.below B.out))
  go_wp2_with (refine wpList_load_at 102 rfl (.tmp 5) rfl _ _ rfl _ LD ?_)
  with_reducible refine CC.out.mono ?_
  rintro e w1 ⟨rfl, b1⟩
  have BX := X.out.below b1
  unfold Blk at BX
  replace HP := hid (KP.out.2.2.1.2.1 _ Q5 _ _ #[.slice a n c, .int .i64 (ST 0).1, .int .i64 (ST 0).2] (KP.out.2.2.1.1 _ _ HP.out b1) (X.out.below b1) (Or.inr rfl))
  replace Z := hid ((Z.out.below b1).other (q := Q5) (ds := #[.slice a n c, .int .i64 (ST 0).1, .int .i64 (ST 0).2]) (by omega))
  replace Y := hid ((Y.out.below b1).other (q := Q5) (ds := #[.slice a n c, .int .i64 (ST 0).1, .int .i64 (ST 0).2]) (by omega))
  replace X := hid ((X.out.below b1).row #[.slice a n c, .int .i64 (ST 0).1, .int .i64 (ST 0).2])
  replace B := hid (setRow_below (q := Q5) (cs := #[.slice a n c, .int .i64 (ST 0).1, .int .i64 (ST 0).2]) (B.out.trans (b1.mono B.out.size)) (by omega))
  replace s : Hid (QS + 1 ≤ (w1.setRow Q5 #[.slice a n c, .int .i64 (ST 0).1, .int .i64 (ST 0).2]).heap.size) := by unfold Hid; have := s.out; have := b1.size; simp; omega
  clear CC LD b1 TT
  go_upto_block 4 with (refine wpList_store_row rfl 102 (.tmp 5) (.tmp 90) rfl Q5 #[.slice a n c, .int .i64 (ST 0).1, .int .i64 (ST 0).2] rfl rfl 102 _ BX sizeRead rfl (by simp [Value.oneCell']) ?_)
  clear BX
  generalize w1.setRow Q5 #[.slice a n c, .int .i64 (ST 0).1, .int .i64 (ST 0).2] = W2 at *
  obtain ⟨PK, PH⟩ : Hid (Keeps 30 (QS + 1) PP3) ∧ Hid (PP3 W2) := ⟨KP.out.2.2.1, HP.out⟩
  go_cut [] from 8 to 112 (fun wx => ∃ k va vc, ∃ ys, Hid (F4 = 0 → OwnE 30 7 T7.cs (QS + 1) wx (.slice va k vc) MT ys) ∧ Hid (F4 = 0 → ∀ j (g : j < ys.length), TaSame (LT j) ys[j]) ∧ Hid (F4 = 0 → ∀ y ∈ ys, OwnN (QS + 1) wx (.slice y.sa y.sl y.sc) y.sl y.tk) ∧ Hid (Blk wx Q5 102 #[.slice a n c, .int .i64 P4, .int .i64 F4]) ∧ Hid (Blk wx QS 54 #[.int .i64 x0, .int .i64 x1, .int .i64 x2, .slice vaQ kQ vcQ, .slice vaN kN vcN, .slice va k vc, .slice none 0 0, .slice none 0 0]) ∧ Hid (Blk wx w.heap.size 54 #[.int .i64 0, .int .i64 0, .int .i64 0, .slice none 0 0, .slice none 0 0, .slice none 0 0, .slice none 0 0, .slice none 0 0]) ∧ Hid (Below w.heap.size w wx) ∧ Hid (QS + 1 ≤ wx.heap.size) ∧ Hid (PP3 wx))
  case first =>
    go_wp2_with fail
    go_loopw [13] (fun i wr => ∃ k : Nat, k ≤ CT ∧ i = .int .i64 (k : Int) ∧ ∃ va vc, ∃ ys, Hid (OwnE 30 7 T7.cs (QS + 1) wr (.slice va k vc) k ys) ∧ Hid ((ST k).2 = 0 → (∀ j (g : j < ys.length), TaSame (VT j) ys[j]) ∧ ∀ y ∈ ys, OwnN (QS + 1) wr (.slice y.sa y.sl y.sc) y.sl y.tk) ∧ Hid (∀ j, j < k → (ST j).2 = 0) ∧ Hid (Blk wr Q5 102 #[.slice a n c, .int .i64 (ST k).1, .int .i64 (ST k).2]) ∧ Hid (Blk wr QS 54 #[.int .i64 x0, .int .i64 x1, .int .i64 x2, .slice vaQ kQ vcQ, .slice vaN kN vcN, .slice va k vc, .slice none 0 0, .slice none 0 0]) ∧ Hid (Blk wr w.heap.size 54 #[.int .i64 0, .int .i64 0, .int .i64 0, .slice none 0 0, .slice none 0 0, .slice none 0 0, .slice none 0 0, .slice none 0 0]) ∧ Hid (Below w.heap.size w wr) ∧ Hid (QS + 1 ≤ wr.heap.size) ∧ Hid (PP3 wr)) (fun i _ => CT - (intOf i).toNat)
    case atStart => exact ⟨0, by omega, rfl, none, 0, [], OwnE.nil _ _ _ _ _, fun _ => ⟨(fun j g => absurd g (by simp)), (fun y hy => by cases hy)⟩, (fun j h => absurd h (by omega)), X, Z, Y, B, s, PH⟩
    case round =>
      clear X Z Y B s PH HP KP
      obtain ⟨k, hk, rfl, va, vc, ys, O, M, J, X, Z, Y, B, s, PH⟩ := hrel
      have ka : (0 : Int) ≤ (k : Int) := by omega
      by_cases hc : k < CT ∧ (ST k).2 = 0
      · have kb : (k : Int) < (CT : Int) := by omega
        have kl := hc.1
        have CK := hid (fun W H => KT.out k W H)
        have J1 : Hid (∀ j, j < k + 1 → (ST j).2 = 0) := fun j hj => by
          rcases Nat.lt_or_ge j k with h | h
          · exact J.out j h
          · rw [show j = k by omega]; exact hc.2
        have M1 := hid (M.out hc.2)
        have EZ := hid hc.2
        rw [EZ.out] at X CK
        clear hc J
        clear M
        have EP : Hid (∃ A E, (ST (k + 1)).1 = A ∧ (ST (k + 1)).2 = E) := ⟨_, _, rfl, rfl⟩
        obtain ⟨A1, E1, hA1, hE1⟩ := EP.out
        rw [hA1, hE1] at CK
        have HA1 := hid hA1
        have HE1 := hid hE1
        clear hA1 hE1 EP
        generalize (ST k).1 = Ak at *
        have c2 := X.out.cellAt 2 (.int .i64 0) rfl
        go_upto_region 22 with fail
        have ba := (Below.refl wr.heap.size wr).alloc (Nat.le_refl _) (.cells #[.int .i64 0, .int .i64 0, .int .i64 0, .int .i64 0, .int .i64 0, .slice none 0 0, .int .i64 0] 30)
        have T := hid (Blk.alloc wr #[.int .i64 0, .int .i64 0, .int .i64 0, .int .i64 0, .int .i64 0, .slice none 0 0, .int .i64 0] (30))
        have q6 : QS + 1 ≤ wr.heap.size := s.out
        have QO := hid (fun g e => (O.out.lt g e).2)
        replace X := hid (X.out.below ba)
        replace Z := hid (Z.out.below ba)
        replace Y := hid (Y.out.below ba)
        replace O := hid (O.out.below ba)
        replace M1 := hid (And.intro M1.out.1 (fun y hy => (M1.out.2 y hy).below ba))
        replace PH := hid (PK.out.1 _ _ PH.out ba)
        replace B := hid (B.out.trans (ba.mono B.out.size))
        replace s : Hid (wr.heap.size + 1 ≤ (wr.alloc (.cells #[.int .i64 0, .int .i64 0, .int .i64 0, .int .i64 0, .int .i64 0, .slice none 0 0, .int .i64 0] 30)).heap.size) := by unfold Hid; simp
        clear ba c2
        generalize wr.alloc (.cells #[.int .i64 0, .int .i64 0, .int .i64 0, .int .i64 0, .int .i64 0, .slice none 0 0, .int .i64 0] 30) = wA at *
        generalize wr.heap.size = Q6 at *
        have LD := X.out.loadAt Try.underlying102 rfl sizeRead
        have CC := hid (CK.out wA (HL.out.below B.out))
        go_wp2_with (refine wpList_load_at 102 rfl (.tmp 5) rfl _ _ rfl _ LD ?_)
        with_reducible refine CC.out.mono ?_
        rintro e w1 ⟨y, rfl, hgood, b1⟩
        obtain ⟨t1, t2, tc, tm, wk, sa, sl, sc, st, tk⟩ := y
        have HG := hid hgood
        clear hgood
        have BX := X.out.below b1
        unfold Blk at BX
        have B6 := (T.out.below b1).other (q := Q5) (ds := #[.slice a n c, .int .i64 A1, .int .i64 E1]) (by omega)
        have TB := hid B6
        have XB := hid ((X.out.below b1).row #[.slice a n c, .int .i64 A1, .int .i64 E1])
        replace O := hid (((O.out.below b1).blk (X.out.below b1) (by decide) #[.slice a n c, .int .i64 A1, .int .i64 E1]).rowN (q := Q6) #[.int .i64 t1, .int .i64 t2, .int .i64 tc, .int .i64 tm, .int .i64 wk, .slice sa sl sc, .int .i64 st] (fun g e => by have := QO.out g e; omega))
        replace M1 := hid (And.intro M1.out.1 (fun y hy => (((M1.out.2 y hy).below b1).blk (X.out.below b1) (by decide) #[.slice a n c, .int .i64 A1, .int .i64 E1]).blk B6 (by decide) #[.int .i64 t1, .int .i64 t2, .int .i64 tc, .int .i64 tm, .int .i64 wk, .slice sa sl sc, .int .i64 st]))
        have NG := hid (fun (h : E1 = 0) => ((((HG.out h).2.blk (X.out.below b1) (by decide) #[.slice a n c, .int .i64 A1, .int .i64 E1]).blk B6 (by decide) #[.int .i64 t1, .int .i64 t2, .int .i64 tc, .int .i64 tm, .int .i64 wk, .slice sa sl sc, .int .i64 st]).weaken (b' := QS + 1) (by have := s.out; omega)))
        have GG := hid (fun (h : E1 = 0) => (HG.out h).1)
        replace PH := hid (PK.out.2.1 _ Q6 _ _ #[.int .i64 t1, .int .i64 t2, .int .i64 tc, .int .i64 tm, .int .i64 wk, .slice sa sl sc, .int .i64 st] (PK.out.2.1 _ Q5 _ _ #[.slice a n c, .int .i64 A1, .int .i64 E1] (PK.out.1 _ _ PH.out b1) (X.out.below b1) (Or.inr rfl)) B6 (Or.inl rfl))
        replace Z := hid (((Z.out.below b1).other (q := Q5) (ds := #[.slice a n c, .int .i64 A1, .int .i64 E1]) (by omega)).other (q := Q6) (ds := #[.int .i64 t1, .int .i64 t2, .int .i64 tc, .int .i64 tm, .int .i64 wk, .slice sa sl sc, .int .i64 st]) (by omega))
        replace Y := hid (((Y.out.below b1).other (q := Q5) (ds := #[.slice a n c, .int .i64 A1, .int .i64 E1]) (by omega)).other (q := Q6) (ds := #[.int .i64 t1, .int .i64 t2, .int .i64 tc, .int .i64 tm, .int .i64 wk, .slice sa sl sc, .int .i64 st]) (by omega))
        replace X := hid (XB.out.other (q := Q6) (ds := #[.int .i64 t1, .int .i64 t2, .int .i64 tc, .int .i64 tm, .int .i64 wk, .slice sa sl sc, .int .i64 st]) (by omega))
        replace T := hid (TB.out.row #[.int .i64 t1, .int .i64 t2, .int .i64 tc, .int .i64 tm, .int .i64 wk, .slice sa sl sc, .int .i64 st])
        replace B := hid (setRow_below (q := Q6) (cs := #[.int .i64 t1, .int .i64 t2, .int .i64 tc, .int .i64 tm, .int .i64 wk, .slice sa sl sc, .int .i64 st]) (setRow_below (q := Q5) (cs := #[.slice a n c, .int .i64 A1, .int .i64 E1]) (B.out.trans (b1.mono B.out.size)) (by omega)) (by omega))
        replace s : Hid (QS + 1 ≤ ((w1.setRow Q5 #[.slice a n c, .int .i64 A1, .int .i64 E1]).setRow Q6 #[.int .i64 t1, .int .i64 t2, .int .i64 tc, .int .i64 tm, .int .i64 wk, .slice sa sl sc, .int .i64 st]).heap.size) := by unfold Hid; have := s.out; have := b1.size; simp; omega
        unfold Blk at B6
        clear CC LD b1 XB TB CK QO HG
        go_upto_region 23 with (first | refine wpList_store_row rfl 102 (.tmp 5) (.tmp 105) rfl Q5 #[.slice a n c, .int .i64 A1, .int .i64 E1] rfl rfl 102 _ BX sizeRead rfl (by simp [Value.oneCell']) ?_ | refine wpList_store_row rfl 30 (.tmp 14) (.tmp 106) rfl Q6 #[.int .i64 t1, .int .i64 t2, .int .i64 tc, .int .i64 tm, .int .i64 wk, .slice sa sl sc, .int .i64 st] rfl rfl 30 _ B6 sizeTask rfl (by simp [Value.oneCell']) ?_)
        clear BX B6
        generalize (w1.setRow Q5 #[.slice a n c, .int .i64 A1, .int .i64 E1]).setRow Q6 #[.int .i64 t1, .int .i64 t2, .int .i64 tc, .int .i64 tm, .int .i64 wk, .slice sa sl sc, .int .i64 st] = w3 at *
        have y3 := Z.out.cellAt 5 (.slice va k vc) rfl
        have LD := T.out.loadAt Try.underlying30 rfl sizeTask
        go_wp2_with (first | refine wpList_load_at 30 rfl (.tmp 14) rfl _ _ rfl _ LD ?_ | (at_builtin; refine push_ownE 51 30 _ 72 T7.cs_len T7.one Try.underlying51 infT rfl (by decide) w3 (⟨t1, t2, tc, tm, wk, sa, sl, sc, st, tk⟩ : T7) rfl (.tmp 108) (.tmp 110) rfl (QS + 1) k (.slice va k vc) ys #[.int .i64 t1, .int .i64 t2, .int .i64 tc, .int .i64 tm, .int .i64 wk, .slice sa sl sc, .int .i64 st] rfl rfl O.out s.out (by simp [Act.eval]) (by omega) (by omega) ?_))
        intro v4 w4 h4 b4 g4
        obtain ⟨va4, vc4, rfl⟩ := h4.form
        replace PH := hid (PK.out.2.2.2 _ _ _ _ _ _ _ _ _ PH.out O.out g4)
        have S4 : Hid (E1 = 0 → ∀ j (g : j < (ys ++ [(⟨t1, t2, tc, tm, wk, sa, sl, sc, st, tk⟩ : T7)]).length), TaSame (VT j) (ys ++ [(⟨t1, t2, tc, tm, wk, sa, sl, sc, st, tk⟩ : T7)])[j]) := fun h j g => by
          by_cases hj : j < ys.length
          · rw [List.getElem_append_left hj]; exact M1.out.1 j hj
          · have hyl := O.out.len
            have e : j = k := by rw [List.length_append] at g; simp at g; omega
            subst e
            rw [List.getElem_append_right (by omega)]
            simp only [hyl, Nat.sub_self, List.getElem_cons_zero]
            exact GG.out h
        have M4 : Hid (E1 = 0 → ∀ y ∈ ys ++ [(⟨t1, t2, tc, tm, wk, sa, sl, sc, st, tk⟩ : T7)], OwnN (QS + 1) w4 (.slice y.sa y.sl y.sc) y.sl y.tk) := fun h y hy => by
          rcases List.mem_append.1 hy with hy | hy
          · exact (M1.out.2 y hy).grownN g4 (own_ne (M1.out.2 y hy) O.out (by decide))
          · simp only [List.mem_singleton] at hy
            subst hy
            exact (NG.out h).grownN g4 (own_ne (NG.out h) O.out (by decide))
        replace O := hid h4
        replace X := hid (X.out.low b4 (by omega))
        replace Z := hid (Z.out.low b4 (by omega))
        replace Y := hid (Y.out.low b4 (by omega))
        replace B := hid (B.out.trans (b4.mono (by omega)))
        replace s : Hid (QS + 1 ≤ w4.heap.size) := by unfold Hid; have := b4.size; have := s.out; omega
        clear h4 b4 g4 LD y3 T M1 NG GG
        have y := Z.out.cellAt 5 (.slice va k vc) rfl
        have ff : w4.frozen? ⟨QS, 5, none⟩ = false := Z.out.froz
        go_upto_region 20 with fail
        replace Z : Hid (Blk (w4.setCell ⟨QS, 5, none⟩ (.slice va4 (k + 1) vc4)) QS 54 #[.int .i64 x0, .int .i64 x1, .int .i64 x2, .slice vaQ kQ vcQ, .slice vaN kN vcN, .slice va4 (k + 1) vc4, .slice none 0 0, .slice none 0 0]) := Z.out.put (i := 5) (.slice va4 (k + 1) vc4)
        replace X := hid (X.out.cellO ⟨QS, 5, none⟩ (.slice va4 (k + 1) vc4) (by show Q5 ≠ QS; omega))
        replace Y := hid (Y.out.cellO ⟨QS, 5, none⟩ (.slice va4 (k + 1) vc4) (by show w.heap.size ≠ QS; omega))
        replace O := hid (O.out.cellO ⟨QS, 5, none⟩ (.slice va4 (k + 1) vc4) (by show QS < QS + 1; omega))
        replace M4 := hid (fun h y hy => (M4.out h y hy).cellO ⟨QS, 5, none⟩ (.slice va4 (k + 1) vc4) (by show QS < QS + 1; omega))
        replace PH := hid (PK.out.2.2.1 _ ⟨QS, 5, none⟩ (.slice va4 (k + 1) vc4) PH.out (by show QS < QS + 1; omega))
        replace B := hid (B.out.setCell (p := ⟨QS, 5, none⟩) (by show w.heap.size ≤ QS; omega) (.slice va4 (k + 1) vc4))
        replace s : Hid (QS + 1 ≤ (w4.setCell ⟨QS, 5, none⟩ (.slice va4 (k + 1) vc4)).heap.size) := by unfold Hid; have := s.out; simpa using this
        clear y ff
        generalize w4.setCell ⟨QS, 5, none⟩ (.slice va4 (k + 1) vc4) = w5 at *
        go_wp2_with fail
        refine ⟨⟨k + 1, by omega, by go_num, va4, vc4, _, O, (by rw [HE1.out]; exact fun h => ⟨S4.out h, M4.out h⟩), J1, (by rw [HA1.out, HE1.out]; exact X), Z, Y, B, s, PH⟩, ?_⟩
        simp [intOf]; omega
      · have EX := XT.out k hk J.out (by rcases Nat.lt_or_ge k CT with h | h; exact Or.inr (fun e => hc ⟨h, e⟩); exact Or.inl h)
        have X9 : Hid (Blk wr Q5 102 #[.slice a n c, .int .i64 P4, .int .i64 F4]) := by
          have e1 : P4 = (ST k).1 := congrArg Prod.fst EX.1
          have e2 : F4 = (ST k).2 := congrArg Prod.snd EX.1
          rw [e1, e2]; exact X
        have e2 : F4 = (ST k).2 := congrArg Prod.snd EX.1
        have O9 : Hid (F4 = 0 → OwnE 30 7 T7.cs (QS + 1) wr (.slice va k vc) MT ys) := fun h => by rw [e2] at h; obtain ⟨h1, h2⟩ := EX.2 h; rw [h1]; exact O.out
        have S9 : Hid (F4 = 0 → ∀ j (g : j < ys.length), TaSame (LT j) ys[j]) := fun h j g => by rw [e2] at h; obtain ⟨h1, h2⟩ := EX.2 h; rw [h2 j]; exact (M.out h).1 j g
        have M9 : Hid (F4 = 0 → ∀ y ∈ ys, OwnN (QS + 1) wr (.slice y.sa y.sl y.sc) y.sl y.tk) := fun h y hy => by rw [e2] at h; exact (M.out h).2 y hy
        by_cases hlt : k < CT
        · have kb : (k : Int) < (CT : Int) := by omega
          have tE : ((ST k).2 == 0) = false := by
            have h : ¬ (ST k).2 = 0 := fun e => hc ⟨hlt, e⟩
            simpa using h
          clear hc EX e2
          have c2 := X.out.cellAt 2 (.int .i64 (ST k).2) rfl
          go_wp2_with fail
          go_meet
          exact ⟨k, va, vc, ys, O9, S9, M9, X9, Z, Y, B, s, PH⟩
        · have kb : ¬ (k : Int) < (CT : Int) := by omega
          clear hc EX e2
          go_wp2_with fail
          go_meet
          exact ⟨k, va, vc, ys, O9, S9, M9, X9, Z, Y, B, s, PH⟩
  case rest =>
  clear X Z Y B s PH HP PK KT XT cT
  obtain ⟨kT, vaT, vcT, ysT, O, SY, MY, X, Z, Y, B, s, HP⟩ := hcut
  obtain ⟨PP4, KP', HP', DP4⟩ : ∃ P : World → Prop, Hid (True ∧ True ∧ True ∧ Keeps 94 (QS + 1) P) ∧ Hid (P wc) ∧ Hid (∀ W, P W → PP3 W ∧ ((F4 = 0 → OwnE 30 7 T7.cs (QS + 1) W (.slice vaT kT vcT) MT ysT) ∧ (F4 = 0 → ∀ y ∈ ysT, OwnN (QS + 1) W (.slice y.sa y.sl y.sc) y.sl y.tk))) := ⟨fun W => PP3 W ∧ ((F4 = 0 → OwnE 30 7 T7.cs (QS + 1) W (.slice vaT kT vcT) MT ysT) ∧ (F4 = 0 → ∀ y ∈ ysT, OwnN (QS + 1) W (.slice y.sa y.sl y.sc) y.sl y.tk)), ⟨trivial, trivial, trivial, (KP.out.2.2.2.and ((Keeps.own ⟨by decide, by decide⟩).imp.and (Keeps.all (fun y => Keeps.own ⟨by decide, by decide⟩)).imp))⟩, ⟨HP.out, O.out, MY.out⟩, fun W h => h⟩
  clear KP HP O MY
  have KP := KP'
  have HP := HP'
  clear KP' HP'
  generalize wc = W2 at *
  have LD := X.out.loadAt Try.underlying102 rfl sizeRead
  have CC := hid (NL.out W2 (HL.out.below B.out))
  go_wp2_with (refine wpList_load_at 102 rfl (.tmp 5) rfl _ _ rfl _ LD ?_)
  with_reducible refine CC.out.mono ?_
  rintro e w1 ⟨v, rfl, hv, hv2, b1⟩
  obtain ⟨vaL, kL, vcL, rfl, hvg⟩ : ∃ va vn vc, v = .slice va vn vc ∧ (F5 = 0 → ∃ ys, OwnE 138 8 Le.cs W2.heap.size w1 (.slice va vn vc) ML ys ∧ (∀ j (g : j < ys.length), LeSame (LL j) ys[j]) ∧ ∀ y ∈ ys, OwnN W2.heap.size w1 (.slice y.sa y.sl y.sc) y.sl y.co) := by
    by_cases hF : F5 = 0
    · obtain ⟨ys, h, h'⟩ := hv hF
      obtain ⟨va, vc, rfl⟩ := h.form
      exact ⟨va, ML, vc, rfl, fun _ => ⟨ys, h, h'⟩⟩
    · exact ⟨none, 0, 0, hv2 hF, fun h => absurd h hF⟩
  obtain ⟨ysL, hvl⟩ : ∃ ys, F5 = 0 → OwnE 138 8 Le.cs W2.heap.size w1 (.slice vaL kL vcL) ML ys ∧ (∀ j (g : j < ys.length), LeSame (LL j) ys[j]) ∧ ∀ y ∈ ys, OwnN W2.heap.size w1 (.slice y.sa y.sl y.sc) y.sl y.co := by
    by_cases hF : F5 = 0
    · obtain ⟨ys, h⟩ := hvg hF
      exact ⟨ys, fun _ => h⟩
    · exact ⟨[], fun h => absurd h hF⟩
  have hs2 := s.out
  have BX := X.out.below b1
  unfold Blk at BX
  have OL := hid (fun z => ((hvl z).1.weaken (b' := QS + 1) (by omega)).blk (X.out.below b1) (by decide) #[.slice a n c, .int .i64 P5, .int .i64 F5])
  have SL := hid (fun z => (hvl z).2.1)
  have ML' := hid (fun z y hy => (((hvl z).2.2 y hy).weaken (b' := QS + 1) (by omega)).blk (X.out.below b1) (by decide) #[.slice a n c, .int .i64 P5, .int .i64 F5])
  replace HP := hid (KP.out.2.2.2.2.1 _ Q5 _ _ #[.slice a n c, .int .i64 P5, .int .i64 F5] (KP.out.2.2.2.1 _ _ HP.out b1) (X.out.below b1) (Or.inr rfl))
  replace Z := hid ((Z.out.below b1).other (q := Q5) (ds := #[.slice a n c, .int .i64 P5, .int .i64 F5]) (by omega))
  replace Y := hid ((Y.out.below b1).other (q := Q5) (ds := #[.slice a n c, .int .i64 P5, .int .i64 F5]) (by omega))
  replace X := hid ((X.out.below b1).row #[.slice a n c, .int .i64 P5, .int .i64 F5])
  replace B := hid (setRow_below (q := Q5) (cs := #[.slice a n c, .int .i64 P5, .int .i64 F5]) (B.out.trans (b1.mono B.out.size)) (by omega))
  replace s : Hid (QS + 1 ≤ (w1.setRow Q5 #[.slice a n c, .int .i64 P5, .int .i64 F5]).heap.size) := by unfold Hid; have := s.out; have := b1.size; simp; omega
  clear CC LD b1 NL hv hv2 hvg hvl hs2
  have y := Z.out.cellAt 6 (.slice none 0 0) rfl
  have ff : (w1.setRow Q5 #[.slice a n c, .int .i64 P5, .int .i64 F5]).frozen? ⟨QS, 6, none⟩ = false := Z.out.froz
  go_upto_region 25 with (refine wpList_store_row rfl 102 (.tmp 5) (.tmp 116) rfl Q5 #[.slice a n c, .int .i64 P5, .int .i64 F5] rfl rfl 102 _ BX sizeRead rfl (by simp [Value.oneCell']) ?_)
  clear BX y ff
  generalize w1.setRow Q5 #[.slice a n c, .int .i64 P5, .int .i64 F5] = w4 at *
  replace Z : Hid (Blk (w4.setCell ⟨QS, 6, none⟩ (.slice vaL kL vcL)) QS 54 #[.int .i64 x0, .int .i64 x1, .int .i64 x2, .slice vaQ kQ vcQ, .slice vaN kN vcN, .slice vaT kT vcT, .slice vaL kL vcL, .slice none 0 0]) := Z.out.put (i := 6) (.slice vaL kL vcL)
  replace X := hid (X.out.cellO ⟨QS, 6, none⟩ (.slice vaL kL vcL) (by show Q5 ≠ QS; omega))
  replace Y := hid (Y.out.cellO ⟨QS, 6, none⟩ (.slice vaL kL vcL) (by show w.heap.size ≠ QS; omega))
  replace OL := hid (fun z => (OL.out z).cellO ⟨QS, 6, none⟩ (.slice vaL kL vcL) (by show QS < QS + 1; omega))
  replace ML' := hid (fun z y hy => (ML'.out z y hy).cellO ⟨QS, 6, none⟩ (.slice vaL kL vcL) (by show QS < QS + 1; omega))
  replace HP := hid (KP.out.2.2.2.2.2.1 _ ⟨QS, 6, none⟩ (.slice vaL kL vcL) HP.out (by show QS < QS + 1; omega))
  replace B := hid (B.out.setCell (p := ⟨QS, 6, none⟩) (by show w.heap.size ≤ QS; omega) (.slice vaL kL vcL))
  replace s : Hid (QS + 1 ≤ (w4.setCell ⟨QS, 6, none⟩ (.slice vaL kL vcL)).heap.size) := by unfold Hid; have := s.out; simpa using this
  generalize w4.setCell ⟨QS, 6, none⟩ (.slice vaL kL vcL) = W2 at *
  obtain ⟨PP5, KP', HP', DP5⟩ : ∃ P : World → Prop, Hid (True ∧ True ∧ True ∧ Keeps 94 (QS + 1) P) ∧ Hid (P W2) ∧ Hid (∀ W, P W → PP4 W ∧ ((F5 = 0 → OwnE 138 8 Le.cs (QS + 1) W (.slice vaL kL vcL) ML ysL) ∧ (F5 = 0 → ∀ y ∈ ysL, OwnN (QS + 1) W (.slice y.sa y.sl y.sc) y.sl y.co))) := ⟨fun W => PP4 W ∧ ((F5 = 0 → OwnE 138 8 Le.cs (QS + 1) W (.slice vaL kL vcL) ML ysL) ∧ (F5 = 0 → ∀ y ∈ ysL, OwnN (QS + 1) W (.slice y.sa y.sl y.sc) y.sl y.co)), ⟨trivial, trivial, trivial, (KP.out.2.2.2.and ((Keeps.own ⟨by decide, by decide⟩).imp.and (Keeps.all (fun y => Keeps.own ⟨by decide, by decide⟩)).imp))⟩, ⟨HP.out, OL.out, ML'.out⟩, fun W h => h⟩
  clear KP HP OL ML'
  have KP := KP'
  have HP := HP'
  clear KP' HP'
  have LD := X.out.loadAt Try.underlying102 rfl sizeRead
  have CC := hid (TH.out W2 (HL.out.below B.out))
  go_wp2_with (refine wpList_load_at 102 rfl (.tmp 5) rfl _ _ rfl _ LD ?_)
  with_reducible refine CC.out.mono ?_
  rintro e w1 ⟨rfl, b1⟩
  have BX := X.out.below b1
  unfold Blk at BX
  replace HP := hid (KP.out.2.2.2.2.1 _ Q5 _ _ #[.slice a n c, .int .i64 (SH 0).1, .int .i64 (SH 0).2] (KP.out.2.2.2.1 _ _ HP.out b1) (X.out.below b1) (Or.inr rfl))
  replace Z := hid ((Z.out.below b1).other (q := Q5) (ds := #[.slice a n c, .int .i64 (SH 0).1, .int .i64 (SH 0).2]) (by omega))
  replace Y := hid ((Y.out.below b1).other (q := Q5) (ds := #[.slice a n c, .int .i64 (SH 0).1, .int .i64 (SH 0).2]) (by omega))
  replace X := hid ((X.out.below b1).row #[.slice a n c, .int .i64 (SH 0).1, .int .i64 (SH 0).2])
  replace B := hid (setRow_below (q := Q5) (cs := #[.slice a n c, .int .i64 (SH 0).1, .int .i64 (SH 0).2]) (B.out.trans (b1.mono B.out.size)) (by omega))
  replace s : Hid (QS + 1 ≤ (w1.setRow Q5 #[.slice a n c, .int .i64 (SH 0).1, .int .i64 (SH 0).2]).heap.size) := by unfold Hid; have := s.out; have := b1.size; simp; omega
  clear CC LD b1 TH
  go_upto_block 6 with (refine wpList_store_row rfl 102 (.tmp 5) (.tmp 122) rfl Q5 #[.slice a n c, .int .i64 (SH 0).1, .int .i64 (SH 0).2] rfl rfl 102 _ BX sizeRead rfl (by simp [Value.oneCell']) ?_)
  clear BX
  generalize w1.setRow Q5 #[.slice a n c, .int .i64 (SH 0).1, .int .i64 (SH 0).2] = W2 at *
  obtain ⟨PK, PH⟩ : Hid (Keeps 94 (QS + 1) PP5) ∧ Hid (PP5 W2) := ⟨KP.out.2.2.2, HP.out⟩
  go_cut [] from 8 to 150 (fun wx => ∃ k va vc, Hid (F6 = 0 → OwnE 94 2 H2.cs (QS + 1) wx (.slice va k vc) MH LH) ∧ Hid (Blk wx Q5 102 #[.slice a n c, .int .i64 P6, .int .i64 F6]) ∧ Hid (Blk wx QS 54 #[.int .i64 x0, .int .i64 x1, .int .i64 x2, .slice vaQ kQ vcQ, .slice vaN kN vcN, .slice vaT kT vcT, .slice vaL kL vcL, .slice va k vc]) ∧ Hid (Blk wx w.heap.size 54 #[.int .i64 0, .int .i64 0, .int .i64 0, .slice none 0 0, .slice none 0 0, .slice none 0 0, .slice none 0 0, .slice none 0 0]) ∧ Hid (Below w.heap.size w wx) ∧ Hid (QS + 1 ≤ wx.heap.size) ∧ Hid (PP5 wx))
  case first =>
    go_wp2_with fail
    go_loopw [15] (fun i wr => ∃ k : Nat, k ≤ CH ∧ i = .int .i64 (k : Int) ∧ ∃ va vc, Hid (OwnE 94 2 H2.cs (QS + 1) wr (.slice va k vc) k ((List.range k).map VH)) ∧ Hid (∀ j, j < k → (SH j).2 = 0) ∧ Hid (Blk wr Q5 102 #[.slice a n c, .int .i64 (SH k).1, .int .i64 (SH k).2]) ∧ Hid (Blk wr QS 54 #[.int .i64 x0, .int .i64 x1, .int .i64 x2, .slice vaQ kQ vcQ, .slice vaN kN vcN, .slice vaT kT vcT, .slice vaL kL vcL, .slice va k vc]) ∧ Hid (Blk wr w.heap.size 54 #[.int .i64 0, .int .i64 0, .int .i64 0, .slice none 0 0, .slice none 0 0, .slice none 0 0, .slice none 0 0, .slice none 0 0]) ∧ Hid (Below w.heap.size w wr) ∧ Hid (QS + 1 ≤ wr.heap.size) ∧ Hid (PP5 wr)) (fun i _ => CH - (intOf i).toNat)
    case atStart => exact ⟨0, by omega, rfl, none, 0, OwnE.nil _ _ _ _ _, (fun j h => absurd h (by omega)), X, Z, Y, B, s, PH⟩
    case round =>
      clear X Z Y B s PH HP KP
      obtain ⟨k, hk, rfl, va, vc, O, J, X, Z, Y, B, s, PH⟩ := hrel
      have ka : (0 : Int) ≤ (k : Int) := by omega
      by_cases hc : k < CH ∧ (SH k).2 = 0
      · have kb : (k : Int) < (CH : Int) := by omega
        have kl := hc.1
        have CK := hid (fun W H => KH.out k W H)
        have J1 : Hid (∀ j, j < k + 1 → (SH j).2 = 0) := fun j hj => by
          rcases Nat.lt_or_ge j k with h | h
          · exact J.out j h
          · rw [show j = k by omega]; exact hc.2
        have SNO : Hid ((List.range (k + 1)).map VH = (List.range k).map VH ++ [VH k]) := by unfold Hid; rw [List.range_succ, List.map_append]; rfl
        have OL := hid O.out.len
        have EZ := hid hc.2
        rw [EZ.out] at X CK
        clear hc J
        have EP : Hid (∃ A E, (SH (k + 1)).1 = A ∧ (SH (k + 1)).2 = E) := ⟨_, _, rfl, rfl⟩
        obtain ⟨A1, E1, hA1, hE1⟩ := EP.out
        rw [hA1, hE1] at CK
        have HA1 := hid hA1
        have HE1 := hid hE1
        clear hA1 hE1 EP
        generalize (SH k).1 = Ak at *
        generalize hvk : VH k = vk at CK SNO
        obtain ⟨x4, x5⟩ := vk
        have HV := hid hvk
        clear hvk
        generalize (List.range k).map VH = LV at *
        have c2 := X.out.cellAt 2 (.int .i64 0) rfl
        go_upto_region 30 with fail
        clear c2
        generalize wr = wA at *
        have LD := X.out.loadAt Try.underlying102 rfl sizeRead
        have CC := hid (CK.out wA (HL.out.below B.out))
        go_wp2_with (refine wpList_load_at 102 rfl (.tmp 5) rfl _ _ rfl _ LD ?_)
        with_reducible refine CC.out.mono ?_
        rintro e w1 ⟨g, rfl, hg, hb, b1⟩
        have BX := X.out.below b1
        unfold Blk at BX
        have hgs := s.out
        have G := hid (hb.other (q := Q5) (ds := #[.slice a n c, .int .i64 A1, .int .i64 E1]) (by omega))
        replace O := hid ((O.out.below b1).blk (X.out.below b1) (by decide) #[.slice a n c, .int .i64 A1, .int .i64 E1])
        replace PH := hid (PK.out.2.1 _ Q5 _ _ #[.slice a n c, .int .i64 A1, .int .i64 E1] (PK.out.1 _ _ PH.out b1) (X.out.below b1) (Or.inr rfl))
        replace Z := hid ((Z.out.below b1).other (q := Q5) (ds := #[.slice a n c, .int .i64 A1, .int .i64 E1]) (by omega))
        replace Y := hid ((Y.out.below b1).other (q := Q5) (ds := #[.slice a n c, .int .i64 A1, .int .i64 E1]) (by omega))
        replace X := hid ((X.out.below b1).row #[.slice a n c, .int .i64 A1, .int .i64 E1])
        replace B := hid (setRow_below (q := Q5) (cs := #[.slice a n c, .int .i64 A1, .int .i64 E1]) (B.out.trans (b1.mono B.out.size)) (by omega))
        replace s : Hid (QS + 1 ≤ (w1.setRow Q5 #[.slice a n c, .int .i64 A1, .int .i64 E1]).heap.size) := by unfold Hid; have := s.out; have := b1.size; simp; omega
        have gl := G.out.lt
        have gq : QS + 1 ≤ g := by omega
        clear CC LD b1 hb hg CK hgs
        go_upto_region 31 with (refine wpList_store_row rfl 102 (.tmp 5) (.tmp 137) rfl Q5 #[.slice a n c, .int .i64 A1, .int .i64 E1] rfl rfl 102 _ BX sizeRead rfl (by simp [Value.oneCell']) ?_)
        clear BX
        generalize w1.setRow Q5 #[.slice a n c, .int .i64 A1, .int .i64 E1] = w3 at *
        have dG : Blk w3.drew g 2 #[.int .i64 x4, .int .i64 x5] := G.out
        replace X := hid (show Blk w3.drew Q5 102 #[.slice a n c, .int .i64 A1, .int .i64 E1] from X.out)
        replace Z := hid (show Blk w3.drew QS 54 #[.int .i64 x0, .int .i64 x1, .int .i64 x2, .slice vaQ kQ vcQ, .slice vaN kN vcN, .slice vaT kT vcT, .slice vaL kL vcL, .slice va k vc] from Z.out)
        replace Y := hid (show Blk w3.drew w.heap.size 54 #[.int .i64 0, .int .i64 0, .int .i64 0, .slice none 0 0, .slice none 0 0, .slice none 0 0, .slice none 0 0, .slice none 0 0] from Y.out)
        replace O := hid (show OwnE 94 2 H2.cs (QS + 1) w3.drew (.slice va k vc) k LV from O.out)
        replace PH := hid (PK.out.1 _ _ PH.out (show Below w3.heap.size w3 w3.drew from (Below.refl _ _).drew))
        replace B := hid (B.out.drew)
        replace s := hid (show QS + 1 ≤ w3.drew.heap.size from s.out)
        clear G
        refine wp_region_held_drew (S := fun W => Blk W g 2 #[.int .i64 x4, .int .i64 x5]) (by kernel_rfl) dG (fun hHeld => ?_)
        generalize w3.drew = wa at *
        refine wpAnyH_take (i := 0) (v := .pointer (some ⟨QS, 7, none⟩)) rfl (by kernel_rfl) (by kernel_rfl) (by kernel_rfl) (fun _ _ _ h => h) (Or.inl ⟨by rfl, ?_⟩) (by assumption) ?_
        · (intro w hSw; (try dsimp only at hSw);  go_simp)
        (try simp only [Act.put, List.getElem_toArray, List.getElem_cons_succ, List.getElem_cons_zero, List.setIfInBounds_toArray, List.set_cons_zero, List.set_cons_succ])
        refine wpAnyH_take (i := 2) (v := .slice (some ⟨g, 0, none⟩) 2 2) rfl (by kernel_rfl) (by kernel_rfl) (by kernel_rfl) (fun _ _ _ h => h) (Or.inl ⟨by rfl, ?_⟩) (by assumption) ?_
        · (intro w hSw; (try dsimp only at hSw);  go_simp)
        (try simp only [Act.put, List.getElem_toArray, List.getElem_cons_succ, List.getElem_cons_zero, List.setIfInBounds_toArray, List.set_cons_zero, List.set_cons_succ])
        refine wpAnyH_take (i := 3) (v := .pointer (some ⟨g, 0, none⟩)) rfl (by kernel_rfl) (by kernel_rfl) (by kernel_rfl) (fun _ _ _ h => h) (Or.inl ⟨by rfl, ?_⟩) (by assumption) ?_
        · (intro w hSw; (try dsimp only at hSw);  go_simp)
        (try simp only [Act.put, List.getElem_toArray, List.getElem_cons_succ, List.getElem_cons_zero, List.setIfInBounds_toArray, List.set_cons_zero, List.set_cons_succ])
        refine wpAnyH_take (i := 4) (v := .int .i64 x4) rfl (by kernel_rfl) (by kernel_rfl) (by kernel_rfl) (fun _ _ _ h => h) (Or.inl ⟨by rfl, ?_⟩) (by assumption) ?_
        · (intro w hSw; (try dsimp only at hSw); have hc := hSw.cellAt 0 _ rfl; go_simp)
        (try simp only [Act.put, List.getElem_toArray, List.getElem_cons_succ, List.getElem_cons_zero, List.setIfInBounds_toArray, List.set_cons_zero, List.set_cons_succ])
        refine wpAnyH_take (i := 5) (v := .slice (some ⟨g, 0, none⟩) 2 2) rfl (by kernel_rfl) (by kernel_rfl) (by kernel_rfl) (fun _ _ _ h => h) (Or.inl ⟨by rfl, ?_⟩) (by assumption) ?_
        · (intro w hSw; (try dsimp only at hSw);  go_simp)
        (try simp only [Act.put, List.getElem_toArray, List.getElem_cons_succ, List.getElem_cons_zero, List.setIfInBounds_toArray, List.set_cons_zero, List.set_cons_succ])
        refine wpAnyH_take (i := 6) (v := .pointer (some ⟨g, 1, none⟩)) rfl (by kernel_rfl) (by kernel_rfl) (by kernel_rfl) (fun _ _ _ h => h) (Or.inl ⟨by rfl, ?_⟩) (by assumption) ?_
        · (intro w hSw; (try dsimp only at hSw);  go_simp)
        (try simp only [Act.put, List.getElem_toArray, List.getElem_cons_succ, List.getElem_cons_zero, List.setIfInBounds_toArray, List.set_cons_zero, List.set_cons_succ])
        refine wpAnyH_take (i := 7) (v := .int .i64 x5) rfl (by kernel_rfl) (by kernel_rfl) (by kernel_rfl) (fun _ _ _ h => h) (Or.inl ⟨by rfl, ?_⟩) (by assumption) ?_
        · (intro w hSw; (try dsimp only at hSw); have hc := hSw.cellAt 1 _ rfl; go_simp)
        (try simp only [Act.put, List.getElem_toArray, List.getElem_cons_succ, List.getElem_cons_zero, List.setIfInBounds_toArray, List.set_cons_zero, List.set_cons_succ])
        refine wpAnyH_take (i := 8) (v := .agg #[.int .i64 x4, .int .i64 x5]) rfl (by kernel_rfl) (by kernel_rfl) (by kernel_rfl) (fun _ _ _ h => h) (yieldsIf_build (by rfl) _ _ rfl #[.int .i64 x4, .int .i64 x5] (by kernel_rfl)) (by assumption) ?_
        (try simp only [Act.put, List.getElem_toArray, List.getElem_cons_succ, List.getElem_cons_zero, List.setIfInBounds_toArray, List.set_cons_zero, List.set_cons_succ])
        refine wpAnyH_ready (rs := [1, 9]) (by kernel_rfl) (by simp) ?_
        refine AllReadyH.cons rfl (fun K hK => ?_) ?_
        · skip
          have y3 := Z.out.cellAt 7 (.slice va k vc) rfl
          go_simp
          clear y3
          refine hK.out _ _ dG (fun hHeld => ?_)
          clear hK K
          (try simp only [Act.put, List.getElem_toArray, List.getElem_cons_succ, List.getElem_cons_zero, List.setIfInBounds_toArray, List.set_cons_zero, List.set_cons_succ])
          refine wpAnyH_ready (rs := [9]) (by kernel_rfl) (by simp) ?_
          refine AllReadyH.cons rfl (fun K hK => ?_) AllReadyH.nil
          go_simp
          have b := (Below.refl wa.heap.size wa).alloc (Nat.le_refl _) (.cells #[.int .i64 x4, .int .i64 x5] 94)
          have XL := hid (show (wa.alloc (.cells #[.int .i64 x4, .int .i64 x5] 94)).heap[wa.heap.size]? = some (.cells #[.int .i64 x4, .int .i64 x5] 94) from heap_alloc_new _ _)
          replace X := hid (X.out.below b)
          replace Z := hid (Z.out.below b)
          replace Y := hid (Y.out.below b)
          replace O := hid (O.out.below b)
          replace dG := dG.below b
          replace PH := hid (PK.out.1 _ _ PH.out b)
          have nx : QS < wa.heap.size := s.out
          replace s : Hid (QS + 1 ≤ (wa.alloc (.cells #[.int .i64 x4, .int .i64 x5] 94)).heap.size) := by unfold Hid; have := b.size; have := s.out; omega
          replace B := hid (B.out.alloc B.out.size (.cells #[.int .i64 x4, .int .i64 x5] 94))
          clear b
          generalize (wa.alloc (.cells #[.int .i64 x4, .int .i64 x5] 94)) = wb at *
          generalize wa.heap.size = XQ at *
          refine hK.out _ _ dG (fun hHeld => ?_)
          clear hK K
          (try simp only [Act.put, List.getElem_toArray, List.getElem_cons_succ, List.getElem_cons_zero, List.setIfInBounds_toArray, List.set_cons_zero, List.set_cons_succ])
          refine wpAnyH_ready (rs := [10]) (by kernel_rfl) (by simp) ?_
          refine AllReadyH.cons rfl (fun K hK => ?_) AllReadyH.nil
          refine appH_step 52 94 _ 16 H2.cs_len H2.one Try.underlying52 infH rfl (by decide) wb rfl (.tmp 140) (.tmp 148) rfl (QS + 1) k (.slice va k vc) LV rfl O.out s.out (some ⟨XQ, 0, none⟩) 1 1 [⟨x4, x5⟩] rfl (holdsLit (l := [(⟨x4, x5⟩ : H2)]) H2.cs_len XL.out rfl (by simp)) (by omega) (by omega) ?_
          intro v4 w4 h4 b4 g4
          obtain ⟨va4, vc4, rfl⟩ := h4.form
          replace PH := hid (PK.out.2.2.2 _ _ _ _ _ _ _ _ _ PH.out O.out g4)
          have dG4 := dG.grow O.out (by decide) g4
          replace O := hid h4
          replace X := hid (X.out.low b4 (by omega))
          replace Z := hid (Z.out.low b4 (by omega))
          replace Y := hid (Y.out.low b4 (by omega))
          replace B := hid (B.out.trans (b4.mono (by omega)))
          replace s : Hid (QS + 1 ≤ w4.heap.size) := by unfold Hid; have := b4.size; have := s.out; omega
          clear h4 b4 g4 dG XL
          refine hK.out _ _ dG4 (fun hHeld => ?_)
          clear hK K
          (try simp only [Act.put, List.getElem_toArray, List.getElem_cons_succ, List.getElem_cons_zero, List.setIfInBounds_toArray, List.set_cons_zero, List.set_cons_succ])
          refine wpAnyH_take (i := 11) (v := .pointer (some ⟨QS, 7, none⟩)) rfl (by kernel_rfl) (by kernel_rfl) (by kernel_rfl) (fun _ _ _ h => h) (Or.inl ⟨by rfl, ?_⟩) (by assumption) ?_
          · (intro w hSw; (try dsimp only at hSw);  go_simp)
          (try simp only [Act.put, List.getElem_toArray, List.getElem_cons_succ, List.getElem_cons_zero, List.setIfInBounds_toArray, List.set_cons_zero, List.set_cons_succ])
          refine wpAnyH_ready (rs := [12]) (by kernel_rfl) (by simp) ?_
          refine AllReadyH.cons rfl (fun K hK => ?_) AllReadyH.nil
          have y := Z.out.cellAt 7 (.slice va k vc) rfl
          have ff : w4.frozen? ⟨QS, 7, none⟩ = false := Z.out.froz
          go_simp
          clear y ff
          refine hK.out _ _ (dG4.cellO ⟨QS, 7, none⟩ (.slice va4 (k + 1) vc4) (by show g ≠ QS; omega)) (fun hHeld => ?_)
          clear hK K
          (try simp only [Act.put, List.getElem_toArray, List.getElem_cons_succ, List.getElem_cons_zero, List.setIfInBounds_toArray, List.set_cons_zero, List.set_cons_succ])
          refine wpAnyH_done (by kernel_rfl) ?_ _
          clear hHeld dG4
          replace Z : Hid (Blk (w4.setCell ⟨QS, 7, none⟩ (.slice va4 (k + 1) vc4)) QS 54 #[.int .i64 x0, .int .i64 x1, .int .i64 x2, .slice vaQ kQ vcQ, .slice vaN kN vcN, .slice vaT kT vcT, .slice vaL kL vcL, .slice va4 (k + 1) vc4]) := Z.out.put (i := 7) (.slice va4 (k + 1) vc4)
          replace X := hid (X.out.cellO ⟨QS, 7, none⟩ (.slice va4 (k + 1) vc4) (by show Q5 ≠ QS; omega))
          replace Y := hid (Y.out.cellO ⟨QS, 7, none⟩ (.slice va4 (k + 1) vc4) (by show w.heap.size ≠ QS; omega))
          replace O := hid (O.out.cellO ⟨QS, 7, none⟩ (.slice va4 (k + 1) vc4) (by show QS < QS + 1; omega))
          replace PH := hid (PK.out.2.2.1 _ ⟨QS, 7, none⟩ (.slice va4 (k + 1) vc4) PH.out (by show QS < QS + 1; omega))
          replace B := hid (B.out.setCell (p := ⟨QS, 7, none⟩) (by show w.heap.size ≤ QS; omega) (.slice va4 (k + 1) vc4))
          replace s : Hid (QS + 1 ≤ (w4.setCell ⟨QS, 7, none⟩ (.slice va4 (k + 1) vc4)).heap.size) := by unfold Hid; have := s.out; simpa using this
          generalize w4.setCell ⟨QS, 7, none⟩ (.slice va4 (k + 1) vc4) = w5 at *
          go_wp2_with fail
          refine ⟨⟨k + 1, by omega, by go_num, va4, vc4, (by rw [SNO.out]; exact O), J1, (by rw [HA1.out, HE1.out]; exact X), Z, Y, B, s, PH⟩, ?_⟩
          simp [intOf]; omega
        refine AllReadyH.cons rfl (fun K hK => ?_) AllReadyH.nil
        go_simp
        have b := (Below.refl wa.heap.size wa).alloc (Nat.le_refl _) (.cells #[.int .i64 x4, .int .i64 x5] 94)
        have XL := hid (show (wa.alloc (.cells #[.int .i64 x4, .int .i64 x5] 94)).heap[wa.heap.size]? = some (.cells #[.int .i64 x4, .int .i64 x5] 94) from heap_alloc_new _ _)
        replace X := hid (X.out.below b)
        replace Z := hid (Z.out.below b)
        replace Y := hid (Y.out.below b)
        replace O := hid (O.out.below b)
        replace dG := dG.below b
        replace PH := hid (PK.out.1 _ _ PH.out b)
        have nx : QS < wa.heap.size := s.out
        replace s : Hid (QS + 1 ≤ (wa.alloc (.cells #[.int .i64 x4, .int .i64 x5] 94)).heap.size) := by unfold Hid; have := b.size; have := s.out; omega
        replace B := hid (B.out.alloc B.out.size (.cells #[.int .i64 x4, .int .i64 x5] 94))
        clear b
        generalize (wa.alloc (.cells #[.int .i64 x4, .int .i64 x5] 94)) = wb at *
        generalize wa.heap.size = XQ at *
        refine hK.out _ _ dG (fun hHeld => ?_)
        clear hK K
        (try simp only [Act.put, List.getElem_toArray, List.getElem_cons_succ, List.getElem_cons_zero, List.setIfInBounds_toArray, List.set_cons_zero, List.set_cons_succ])
        refine wpAnyH_ready (rs := [1]) (by kernel_rfl) (by simp) ?_
        refine AllReadyH.cons rfl (fun K hK => ?_) AllReadyH.nil
        have y3 := Z.out.cellAt 7 (.slice va k vc) rfl
        go_simp
        clear y3
        refine hK.out _ _ dG (fun hHeld => ?_)
        clear hK K
        (try simp only [Act.put, List.getElem_toArray, List.getElem_cons_succ, List.getElem_cons_zero, List.setIfInBounds_toArray, List.set_cons_zero, List.set_cons_succ])
        refine wpAnyH_ready (rs := [10]) (by kernel_rfl) (by simp) ?_
        refine AllReadyH.cons rfl (fun K hK => ?_) AllReadyH.nil
        refine appH_step 52 94 _ 16 H2.cs_len H2.one Try.underlying52 infH rfl (by decide) wb rfl (.tmp 140) (.tmp 148) rfl (QS + 1) k (.slice va k vc) LV rfl O.out s.out (some ⟨XQ, 0, none⟩) 1 1 [⟨x4, x5⟩] rfl (holdsLit (l := [(⟨x4, x5⟩ : H2)]) H2.cs_len XL.out rfl (by simp)) (by omega) (by omega) ?_
        intro v4 w4 h4 b4 g4
        obtain ⟨va4, vc4, rfl⟩ := h4.form
        replace PH := hid (PK.out.2.2.2 _ _ _ _ _ _ _ _ _ PH.out O.out g4)
        have dG4 := dG.grow O.out (by decide) g4
        replace O := hid h4
        replace X := hid (X.out.low b4 (by omega))
        replace Z := hid (Z.out.low b4 (by omega))
        replace Y := hid (Y.out.low b4 (by omega))
        replace B := hid (B.out.trans (b4.mono (by omega)))
        replace s : Hid (QS + 1 ≤ w4.heap.size) := by unfold Hid; have := b4.size; have := s.out; omega
        clear h4 b4 g4 dG XL
        refine hK.out _ _ dG4 (fun hHeld => ?_)
        clear hK K
        (try simp only [Act.put, List.getElem_toArray, List.getElem_cons_succ, List.getElem_cons_zero, List.setIfInBounds_toArray, List.set_cons_zero, List.set_cons_succ])
        refine wpAnyH_take (i := 11) (v := .pointer (some ⟨QS, 7, none⟩)) rfl (by kernel_rfl) (by kernel_rfl) (by kernel_rfl) (fun _ _ _ h => h) (Or.inl ⟨by rfl, ?_⟩) (by assumption) ?_
        · (intro w hSw; (try dsimp only at hSw);  go_simp)
        (try simp only [Act.put, List.getElem_toArray, List.getElem_cons_succ, List.getElem_cons_zero, List.setIfInBounds_toArray, List.set_cons_zero, List.set_cons_succ])
        refine wpAnyH_ready (rs := [12]) (by kernel_rfl) (by simp) ?_
        refine AllReadyH.cons rfl (fun K hK => ?_) AllReadyH.nil
        have y := Z.out.cellAt 7 (.slice va k vc) rfl
        have ff : w4.frozen? ⟨QS, 7, none⟩ = false := Z.out.froz
        go_simp
        clear y ff
        refine hK.out _ _ (dG4.cellO ⟨QS, 7, none⟩ (.slice va4 (k + 1) vc4) (by show g ≠ QS; omega)) (fun hHeld => ?_)
        clear hK K
        (try simp only [Act.put, List.getElem_toArray, List.getElem_cons_succ, List.getElem_cons_zero, List.setIfInBounds_toArray, List.set_cons_zero, List.set_cons_succ])
        refine wpAnyH_done (by kernel_rfl) ?_ _
        clear hHeld dG4
        replace Z : Hid (Blk (w4.setCell ⟨QS, 7, none⟩ (.slice va4 (k + 1) vc4)) QS 54 #[.int .i64 x0, .int .i64 x1, .int .i64 x2, .slice vaQ kQ vcQ, .slice vaN kN vcN, .slice vaT kT vcT, .slice vaL kL vcL, .slice va4 (k + 1) vc4]) := Z.out.put (i := 7) (.slice va4 (k + 1) vc4)
        replace X := hid (X.out.cellO ⟨QS, 7, none⟩ (.slice va4 (k + 1) vc4) (by show Q5 ≠ QS; omega))
        replace Y := hid (Y.out.cellO ⟨QS, 7, none⟩ (.slice va4 (k + 1) vc4) (by show w.heap.size ≠ QS; omega))
        replace O := hid (O.out.cellO ⟨QS, 7, none⟩ (.slice va4 (k + 1) vc4) (by show QS < QS + 1; omega))
        replace PH := hid (PK.out.2.2.1 _ ⟨QS, 7, none⟩ (.slice va4 (k + 1) vc4) PH.out (by show QS < QS + 1; omega))
        replace B := hid (B.out.setCell (p := ⟨QS, 7, none⟩) (by show w.heap.size ≤ QS; omega) (.slice va4 (k + 1) vc4))
        replace s : Hid (QS + 1 ≤ (w4.setCell ⟨QS, 7, none⟩ (.slice va4 (k + 1) vc4)).heap.size) := by unfold Hid; have := s.out; simpa using this
        generalize w4.setCell ⟨QS, 7, none⟩ (.slice va4 (k + 1) vc4) = w5 at *
        go_wp2_with fail
        refine ⟨⟨k + 1, by omega, by go_num, va4, vc4, (by rw [SNO.out]; exact O), J1, (by rw [HA1.out, HE1.out]; exact X), Z, Y, B, s, PH⟩, ?_⟩
        simp [intOf]; omega
      · have EX := XH.out k hk J.out (by rcases Nat.lt_or_ge k CH with h | h; exact Or.inr (fun e => hc ⟨h, e⟩); exact Or.inl h)
        have X9 : Hid (Blk wr Q5 102 #[.slice a n c, .int .i64 P6, .int .i64 F6]) := by
          have e1 : P6 = (SH k).1 := congrArg Prod.fst EX.1
          have e2 : F6 = (SH k).2 := congrArg Prod.snd EX.1
          rw [e1, e2]; exact X
        have e2 : F6 = (SH k).2 := congrArg Prod.snd EX.1
        have O9 : Hid (F6 = 0 → OwnE 94 2 H2.cs (QS + 1) wr (.slice va k vc) MH LH) := fun h => by rw [e2] at h; obtain ⟨h1, h2⟩ := EX.2 h; rw [h1, h2]; exact O.out
        by_cases hlt : k < CH
        · have kb : (k : Int) < (CH : Int) := by omega
          have tE : ((SH k).2 == 0) = false := by
            have h : ¬ (SH k).2 = 0 := fun e => hc ⟨hlt, e⟩
            simpa using h
          clear hc EX e2
          have c2 := X.out.cellAt 2 (.int .i64 (SH k).2) rfl
          go_wp2_with fail
          go_meet
          exact ⟨k, va, vc, O9, X9, Z, Y, B, s, PH⟩
        · have kb : ¬ (k : Int) < (CH : Int) := by omega
          clear hc EX e2
          go_wp2_with fail
          go_meet
          exact ⟨k, va, vc, O9, X9, Z, Y, B, s, PH⟩
  case rest =>
  clear X Z Y B s PH HP PK KH XH cH
  obtain ⟨kH, vaH, vcH, O, X, Z, Y, B, s, HP⟩ := hcut
  obtain ⟨PP6, KP', HP', DP6⟩ : ∃ P : World → Prop, Hid (True ∧ True ∧ True ∧ True) ∧ Hid (P wc) ∧ Hid (∀ W, P W → PP5 W ∧ (F6 = 0 → OwnE 94 2 H2.cs (QS + 1) W (.slice vaH kH vcH) MH LH)) := ⟨fun W => PP5 W ∧ (F6 = 0 → OwnE 94 2 H2.cs (QS + 1) W (.slice vaH kH vcH) MH LH), ⟨trivial, trivial, trivial, trivial⟩, ⟨HP.out, O.out⟩, fun W h => h⟩
  clear KP HP O
  have KP := KP'
  have HP := HP'
  clear KP' HP'
  generalize wc = W2 at *
  have LD := X.out.loadAt Try.underlying102 rfl sizeRead
  have CC := hid (dend_any a n c P6 F6 W2)
  have EE := hid (fun h => endT_err (n := n) (A := P6) (E := F6) h)
  have EZ := hid (fun h => endT_zero (n := n) (A := P6) (E := F6) h)
  generalize hen : endT n P6 F6 = EN at *
  have HEN := hid hen
  clear hen
  obtain ⟨en, ee⟩ := EN
  simp only at CC EE EZ
  go_wp2_with (refine wpList_load_at 102 rfl (.tmp 5) rfl _ _ rfl _ LD ?_)
  with_reducible refine CC.out.mono ?_
  rintro e W4 ⟨rfl, b1⟩
  have DD := hid (DP6.out _ HP.out)
  have FA : Hid (F6 = 0 → STO (QS + 1) W4 #[.int .i64 x0, .int .i64 x1, .int .i64 x2, .slice vaQ kQ vcQ, .slice vaN kN vcN, .slice vaT kT vcT, .slice vaL kL vcL, .slice vaH kH vcH]) := fun z6 => by
    obtain ⟨h5, oH⟩ := DP6.out _ HP.out
    have z5 := E5.out z6
    have z4 := E4.out z5
    have z3 := E3.out z4
    have z2 := E2.out z3
    obtain ⟨h4, oL, mL⟩ := DP5.out _ h5
    obtain ⟨h3, oT, mT⟩ := DP4.out _ h4
    obtain ⟨h2, oN⟩ := DP3.out _ h3
    obtain ⟨_, oQ⟩ := DP2.out _ h2
    exact FIN.out _ _ _ _ _ _ _ ysT ysL ((oQ z2).below b1) ((oN z3).below b1) ⟨(oT z4).below b1, SY.out z4, fun y hy => (mT z4 y hy).below b1⟩ ⟨(oL z5).below b1, SL.out z5, fun y hy => (mL z5 y hy).below b1⟩ ((oH z6).below b1)
  clear DD
  replace Y := hid (Y.out.below b1)
  replace Z := hid (Z.out.below b1)
  replace B := hid (B.out.trans (b1.mono B.out.size))
  clear CC LD b1 X HP KP E1 E2 E3 E4 E5 FIN DP1 DP2 DP3 DP4 DP5 DP6 SY SL
  by_cases hE : ee = 0
  · obtain ⟨rfl, rfl⟩ : en = 0 ∧ ee = 0 := by have := EZ.out hE; simpa using this
    have FB := hid (FA.out (EE.out rfl))
    clear EZ EE FA hE
    have LZ := Z.out.loadAt Try.underlying54 rfl sizeSta
    have BY := Y.out
    unfold Blk at BY
    go_wp2_with (first | refine wpList_load_at 54 rfl (.tmp 7) rfl _ _ rfl _ LZ ?_ | refine wpList_store_row rfl 54 (.tmp 2) (.tmp 161) rfl w.heap.size #[.int .i64 x0, .int .i64 x1, .int .i64 x2, .slice vaQ kQ vcQ, .slice vaN kN vcN, .slice vaT kT vcT, .slice vaL kL vcL, .slice vaH kH vcH] rfl rfl 54 _ BY sizeSta rfl (by simp [Value.oneCell']) ?_)
    refine bodyPost_ret (results_cell3 rfl rfl ((Y.out.row _).loadVar Try.underlying54 rfl sizeSta)) rfl ?_
    rw [HEN.out]
    refine ⟨_, rfl, fun h => absurd rfl h, fun _ => (STOR.out (QS + 1) w.heap.size _ _ (by omega) FB.out), setRow_below B.out (Nat.le_refl _)⟩
  · have tE : (ee != 0) = true := by simpa using hE
    have BY := Y.out
    unfold Blk at BY
    have HE := hid hE
    clear EZ EE FA hE
    go_wp2_with (first | refine wpList_built rfl 54 _ rfl #[.int .i64 0, .int .i64 0, .int .i64 0, .slice none 0 0, .slice none 0 0, .slice none 0 0, .slice none 0 0, .slice none 0 0] (by kernel_rfl) ?_ | refine wpList_store_row rfl 54 (.tmp 2) (.tmp 158) rfl w.heap.size #[.int .i64 0, .int .i64 0, .int .i64 0, .slice none 0 0, .slice none 0 0, .slice none 0 0, .slice none 0 0, .slice none 0 0] rfl rfl 54 _ BY sizeSta rfl (by simp [Value.oneCell']) ?_)
    refine bodyPost_ret (results_cell3 rfl rfl ((Y.out.row _).loadVar Try.underlying54 rfl sizeSta)) rfl ?_
    rw [HEN.out]
    exact ⟨_, rfl, fun _ => rfl, fun h => absurd h HE.out, setRow_below B.out (Nat.le_refl _)⟩
end Go.Proofs.Ythkbddnkcljjpaa
