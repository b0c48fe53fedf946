/-
  Contracts of furlongref10: numbers in a row.
  Contracts of furlongref10: a list of numbers that is read.
  Contracts of furlongref10: a queue, a node that is read.
  Contracts of furlongref10: a task, a lease that is read.
  Contracts of furlongref10: a list of leases that is read.
  Contracts of furlongref10: an answer that is read.
-/
import Derived.Test.YthkbddnkcljjpaaMFA
import Derived.Test.YthkbddnkcljjpaaMCR
import Derived.Test.YthkbddnkcljjpaaMEJ
namespace Go.Proofs.Ythkbddnkcljjpaa
open Go.RowKit Go.Deep Go.Maps
set_option linter.unusedVariables false
set_option linter.unusedSimpArgs false
theorem tkc_ls (l : List Int) (A E : Int) : ∀ k, tkc l A E k = (lsV (tkI l) A E k, lsS (tkI l) A E (k + 1))
  | 0 => rfl
  | k + 1 => by
    show tkI l (tkc l A E k).2.1 (tkc l A E k).2.2 = _
    rw [tkc_ls l A E k]
    rfl
/-- A number that stands, or none yet. -/
def nuV (l : List Int) (A E : Int) (k j : Nat) : Value := if j < k then .int .i64 (lsV (tkI l) A E j) else .int .i64 0
theorem nuV_set (l : List Int) (A E : Int) (k K : Nat) (h : k < K) : (((List.range K).map (nuV l A E k)).toArray).setIfInBounds k (.int .i64 (lsV (tkI l) A E k)) = ((List.range K).map (nuV l A E (k + 1))).toArray := by
  apply Array.ext_getElem?
  intro i
  rw [Array.getElem?_setIfInBounds]
  simp only [List.getElem?_toArray, List.getElem?_map, List.size_toArray, List.length_map, List.length_range]
  by_cases e : k = i
  · subst e
    rw [if_pos rfl, if_pos h, List.getElem?_range h]
    simp [nuV]
  · rw [if_neg e]
    by_cases hi : i < K
    · rw [List.getElem?_range hi]
      simp only [Option.map_some]
      congr 1
      unfold nuV
      by_cases h1 : i < k
      · rw [if_pos h1, if_pos (by omega)]
      · rw [if_neg h1, if_neg (by omega)]
    · rw [List.getElem?_eq_none (by simpa using hi)]; rfl
theorem nuV_at (l : List Int) (A E : Int) (k K j : Nat) (h : j < K) : (((List.range K).map (nuV l A E k)).toArray)[j]? = some (nuV l A E k j) := by
  simp [List.getElem?_range h]
theorem results_cell2 {fn : Func} {t x : Tmp} {ty : TypeId} (h : fn.results = #[.cell t ty, .tmp x]) {tmps : Array Value} {P : Program} {w : World} {a : Addr} {v : Value} (ht : tmps.getD t undef = .pointer (some a)) (hl : (loadVar ty a).run P w = .ok v w) : (results fn tmps).run P w = .ok (.tuple #[v, tmps.getD x undef]) w := by
  rw [Array.getD_eq_getD_getElem?] at ht
  simp [results, h, ht, asAddr, hl]
set_option maxRecDepth 100000 in
theorem sizeRead : (Try.prog.info? 102).map (·.size) = some 3 := by kernel_rfl

set_option maxRecDepth 100000 in
theorem make_2 (w : World) : (Instr.makeSlice 75 (.int .i64 2) (.int .i64 2)).run Try.prog w = .ok (.slice (some ⟨w.heap.size, 0, none⟩) 2 2) (w.alloc (.cells #[.int .i64 0, .int .i64 0] 2)) := by kernel_rfl
set_option maxRecDepth 100000 in
set_option maxHeartbeats 4000000 in
theorem dnums2_any (a : Option Addr) (n c : Nat) (l : List Int) (A E : Int) (w : World) (hl : HoldsB w a n c l) (h0 : 0 ≤ A) (h1 : A ≤ n) :
    Calls Try.prog 52 #[.agg #[.slice a n c, .int .i64 A, .int .i64 E], .int .i64 2] w fun e w' => ∃ g, e = .returned (.tuple #[.agg #[.slice a n c, .int .i64 (lsS (tkI l) A E 2).1, .int .i64 (lsS (tkI l) A E 2).2], .slice (some ⟨g, 0, none⟩) 2 2]) ∧ w.heap.size ≤ g ∧ Blk w' g 2 #[.int .i64 (lsV (tkI l) A E 0), .int .i64 (lsV (tkI l) A E 1)] ∧ Below w.heap.size w w' := by
  have HL := hid hl
  have hlen := hl.1
  have hnm := hl.2.1
  have AT := hid (fun k => lsS_at (pe := tkI l) (n := n) (E := E) (fun A E h0 h1 => by have := tkI_at l A E h0 (by omega); omega) h0 h1 k)
  clear hl
  go_enter Try.func52, Try.ntmps52
  go_upto_region 3 with fail
  rw [make_2]
  go_upto_region 3 with fail
  have B0 := hid ((((Below.refl w.heap.size w).alloc (Nat.le_refl _) (.cells #[.slice a n c, .int .i64 A, .int .i64 E] 102)).alloc (by simp) (.cells #[.slice none 0 0, .int .i64 0, .int .i64 0] 102)).alloc (by simp; omega) (.cells #[.int .i64 0, .int .i64 0] 2))
  have X0 := hid (((Blk.alloc w #[.slice a n c, .int .i64 A, .int .i64 E] (102)).below ((Below.refl _ _).alloc (Nat.le_refl _) (.cells #[.slice none 0 0, .int .i64 0, .int .i64 0] 102))).below ((Below.refl _ _).alloc (Nat.le_refl _) (.cells #[.int .i64 0, .int .i64 0] 2)))
  have Y0 := hid ((Blk.alloc (w.alloc (.cells #[.slice a n c, .int .i64 A, .int .i64 E] 102)) #[.slice none 0 0, .int .i64 0, .int .i64 0] (102)).below ((Below.refl _ _).alloc (Nat.le_refl _) (.cells #[.int .i64 0, .int .i64 0] 2)))
  have G0 := hid (Blk.alloc ((w.alloc (.cells #[.slice a n c, .int .i64 A, .int .i64 E] 102)).alloc (.cells #[.slice none 0 0, .int .i64 0, .int .i64 0] 102)) #[.int .i64 0, .int .i64 0] (2))
  generalize (((w.alloc (.cells #[.slice a n c, .int .i64 A, .int .i64 E] 102)).alloc (.cells #[.slice none 0 0, .int .i64 0, .int .i64 0] 102)).alloc (.cells #[.int .i64 0, .int .i64 0] 2)) = W0 at *
  rw [World.size_alloc, World.size_alloc] at G0
  rw [World.size_alloc] at Y0
  go_loopw [11] (fun i wr => ∃ k : Nat, k ≤ 2 ∧ i = .int .i64 (k : Int) ∧ Hid (Blk wr w.heap.size 102 #[.slice a n c, .int .i64 (lsS (tkI l) A E k).1, .int .i64 (lsS (tkI l) A E k).2]) ∧ Hid (Blk wr (w.heap.size + 1) 102 #[.slice none 0 0, .int .i64 0, .int .i64 0]) ∧ Hid (Blk wr (w.heap.size + 1 + 1) 2 ((List.range 2).map (nuV l A E k)).toArray) ∧ Hid (Below w.heap.size w wr)) (fun i _ => 2 - (intOf i).toNat)
  case atStart => exact ⟨0, by omega, rfl, X0, Y0, G0, B0⟩
  case round =>
    clear X0 Y0 G0 B0
    obtain ⟨k, hk', rfl, hX, hY, hG, hB⟩ := hrel
    have LD := hX.out.loadAt Try.underlying102 rfl sizeRead
    by_cases hlt : k < 2
    · have ka : (0 : Int) ≤ (k : Int) := by omega
      have kb : (k : Int) < (2 : Int) := by omega
      have C1 := hid (dnum_any a n c l (lsS (tkI l) A E k).1 (lsS (tkI l) A E k).2 wr (HL.out.below hB.out) ⟨by have := AT.out k; omega, by have := AT.out k; omega⟩)
      have EV : Hid (lsV (tkI l) A E k = (tkI l (lsS (tkI l) A E k).1 (lsS (tkI l) A E k).2).1) := rfl
      have ES : Hid (lsS (tkI l) A E (k + 1) = (tkI l (lsS (tkI l) A E k).1 (lsS (tkI l) A E k).2).2) := rfl
      have NS := hid (nuV_set l A E k 2 hlt)
      have NA := hid (nuV_at l A E k 2 k hlt)
      generalize ((List.range 2).map (nuV l A E k)).toArray = CG at *
      generalize nuV l A E k k = nv at *
      generalize tkI l (lsS (tkI l) A E k).1 (lsS (tkI l) A E k).2 = Z at *
      obtain ⟨z, A1, E1⟩ := Z
      simp only at C1 EV ES
      rw [EV.out] at NS
      generalize (lsS (tkI l) A E k).1 = A0 at *
      generalize (lsS (tkI l) A E k).2 = E0 at *
      go_wp2_with (refine wpList_load_at 102 rfl (.tmp 2) rfl _ _ rfl _ LD ?_)
      with_reducible refine C1.out.mono ?_
      rintro e w2 ⟨rfl, b2⟩
      have X2 := hid (hX.out.below b2)
      have Y2 := hid (hY.out.below b2)
      have G2 := hid (hG.out.below b2)
      have B2 := hid (hB.out.trans (b2.mono hB.out.size))
      have GX := hid (G2.out.other (ds := #[.slice a n c, .int .i64 A1, .int .i64 E1]) (show w.heap.size + 1 + 1 ≠ w.heap.size by omega))
      have cG := GX.out.cellAt k _ NA.out
      have fG : (w2.setRow w.heap.size #[.slice a n c, .int .i64 A1, .int .i64 E1]).frozen? ⟨w.heap.size + 1 + 1, k, none⟩ = false := GX.out.froz
      have BH := X2.out
      unfold Blk at BH
      clear C1 LD hX hY hG hB b2 G2
      go_wp2_with (refine wpList_store_row rfl 102 (.tmp 2) (.tmp 19) rfl w.heap.size #[.slice a n c, .int .i64 A1, .int .i64 E1] rfl rfl 102 _ BH sizeRead rfl (by simp [Value.oneCell']) ?_)
      refine ⟨⟨k + 1, by omega, by go_num, ?_, ?_, ?_, ?_⟩, ?_⟩
      · rw [ES.out]; exact (X2.out.row _).cellO _ _ (by show w.heap.size ≠ w.heap.size + 1 + 1; omega)
      · exact (Y2.out.other (by omega)).cellO _ _ (by show w.heap.size + 1 ≠ w.heap.size + 1 + 1; omega)
      · rw [← NS.out]; exact GX.out.put _
      · exact (setRow_below B2.out (Nat.le_refl _)).setCell (by show w.heap.size ≤ w.heap.size + 1 + 1; omega) _
      · simp [intOf]; omega
    · obtain rfl : k = 2 := by omega
      have kb : ¬ (((2 : Nat) : Int) < (2 : Int)) := by omega
      have BH := hY.out
      unfold Blk at BH
      go_wp2_with (first | refine wpList_load_at 102 rfl (.tmp 2) rfl _ _ rfl _ LD ?_ | refine wpList_store_row rfl 102 (.tmp 4) (.tmp 23) rfl (w.heap.size + 1) #[.slice a n c, .int .i64 (lsS (tkI l) A E 2).1, .int .i64 (lsS (tkI l) A E 2).2] rfl rfl 102 _ BH sizeRead rfl (by simp [Value.oneCell']) ?_)
      refine bodyPost_ret (results_cell2 rfl rfl ((hY.out.row _).loadVar Try.underlying102 rfl sizeRead)) rfl ?_
      exact ⟨w.heap.size + 1 + 1, rfl, by omega, hG.out.other (by omega), setRow_below hB.out (by omega)⟩

set_option maxRecDepth 100000 in
theorem make_3 (w : World) : (Instr.makeSlice 75 (.int .i64 3) (.int .i64 3)).run Try.prog w = .ok (.slice (some ⟨w.heap.size, 0, none⟩) 3 3) (w.alloc (.cells #[.int .i64 0, .int .i64 0, .int .i64 0] 2)) := by kernel_rfl
set_option maxRecDepth 100000 in
set_option maxHeartbeats 4000000 in
theorem dnums3_any (a : Option Addr) (n c : Nat) (l : List Int) (A E : Int) (w : World) (hl : HoldsB w a n c l) (h0 : 0 ≤ A) (h1 : A ≤ n) :
    Calls Try.prog 52 #[.agg #[.slice a n c, .int .i64 A, .int .i64 E], .int .i64 3] w fun e w' => ∃ g, e = .returned (.tuple #[.agg #[.slice a n c, .int .i64 (lsS (tkI l) A E 3).1, .int .i64 (lsS (tkI l) A E 3).2], .slice (some ⟨g, 0, none⟩) 3 3]) ∧ w.heap.size ≤ g ∧ Blk w' g 2 #[.int .i64 (lsV (tkI l) A E 0), .int .i64 (lsV (tkI l) A E 1), .int .i64 (lsV (tkI l) A E 2)] ∧ Below w.heap.size w w' := by
  have HL := hid hl
  have hlen := hl.1
  have hnm := hl.2.1
  have AT := hid (fun k => lsS_at (pe := tkI l) (n := n) (E := E) (fun A E h0 h1 => by have := tkI_at l A E h0 (by omega); omega) h0 h1 k)
  clear hl
  go_enter Try.func52, Try.ntmps52
  go_upto_region 3 with fail
  rw [make_3]
  go_upto_region 3 with fail
  have B0 := hid ((((Below.refl w.heap.size w).alloc (Nat.le_refl _) (.cells #[.slice a n c, .int .i64 A, .int .i64 E] 102)).alloc (by simp) (.cells #[.slice none 0 0, .int .i64 0, .int .i64 0] 102)).alloc (by simp; omega) (.cells #[.int .i64 0, .int .i64 0, .int .i64 0] 2))
  have X0 := hid (((Blk.alloc w #[.slice a n c, .int .i64 A, .int .i64 E] (102)).below ((Below.refl _ _).alloc (Nat.le_refl _) (.cells #[.slice none 0 0, .int .i64 0, .int .i64 0] 102))).below ((Below.refl _ _).alloc (Nat.le_refl _) (.cells #[.int .i64 0, .int .i64 0, .int .i64 0] 2)))
  have Y0 := hid ((Blk.alloc (w.alloc (.cells #[.slice a n c, .int .i64 A, .int .i64 E] 102)) #[.slice none 0 0, .int .i64 0, .int .i64 0] (102)).below ((Below.refl _ _).alloc (Nat.le_refl _) (.cells #[.int .i64 0, .int .i64 0, .int .i64 0] 2)))
  have G0 := hid (Blk.alloc ((w.alloc (.cells #[.slice a n c, .int .i64 A, .int .i64 E] 102)).alloc (.cells #[.slice none 0 0, .int .i64 0, .int .i64 0] 102)) #[.int .i64 0, .int .i64 0, .int .i64 0] (2))
  generalize (((w.alloc (.cells #[.slice a n c, .int .i64 A, .int .i64 E] 102)).alloc (.cells #[.slice none 0 0, .int .i64 0, .int .i64 0] 102)).alloc (.cells #[.int .i64 0, .int .i64 0, .int .i64 0] 2)) = W0 at *
  rw [World.size_alloc, World.size_alloc] at G0
  rw [World.size_alloc] at Y0
  go_loopw [11] (fun i wr => ∃ k : Nat, k ≤ 3 ∧ i = .int .i64 (k : Int) ∧ Hid (Blk wr w.heap.size 102 #[.slice a n c, .int .i64 (lsS (tkI l) A E k).1, .int .i64 (lsS (tkI l) A E k).2]) ∧ Hid (Blk wr (w.heap.size + 1) 102 #[.slice none 0 0, .int .i64 0, .int .i64 0]) ∧ Hid (Blk wr (w.heap.size + 1 + 1) 2 ((List.range 3).map (nuV l A E k)).toArray) ∧ Hid (Below w.heap.size w wr)) (fun i _ => 3 - (intOf i).toNat)
  case atStart => exact ⟨0, by omega, rfl, X0, Y0, G0, B0⟩
  case round =>
    clear X0 Y0 G0 B0
    obtain ⟨k, hk', rfl, hX, hY, hG, hB⟩ := hrel
    have LD := hX.out.loadAt Try.underlying102 rfl sizeRead
    by_cases hlt : k < 3
    · have ka : (0 : Int) ≤ (k : Int) := by omega
      have kb : (k : Int) < (3 : Int) := by omega
      have C1 := hid (dnum_any a n c l (lsS (tkI l) A E k).1 (lsS (tkI l) A E k).2 wr (HL.out.below hB.out) ⟨by have := AT.out k; omega, by have := AT.out k; omega⟩)
      have EV : Hid (lsV (tkI l) A E k = (tkI l (lsS (tkI l) A E k).1 (lsS (tkI l) A E k).2).1) := rfl
      have ES : Hid (lsS (tkI l) A E (k + 1) = (tkI l (lsS (tkI l) A E k).1 (lsS (tkI l) A E k).2).2) := rfl
      have NS := hid (nuV_set l A E k 3 hlt)
      have NA := hid (nuV_at l A E k 3 k hlt)
      generalize ((List.range 3).map (nuV l A E k)).toArray = CG at *
      generalize nuV l A E k k = nv at *
      generalize tkI l (lsS (tkI l) A E k).1 (lsS (tkI l) A E k).2 = Z at *
      obtain ⟨z, A1, E1⟩ := Z
      simp only at C1 EV ES
      rw [EV.out] at NS
      generalize (lsS (tkI l) A E k).1 = A0 at *
      generalize (lsS (tkI l) A E k).2 = E0 at *
      go_wp2_with (refine wpList_load_at 102 rfl (.tmp 2) rfl _ _ rfl _ LD ?_)
      with_reducible refine C1.out.mono ?_
      rintro e w2 ⟨rfl, b2⟩
      have X2 := hid (hX.out.below b2)
      have Y2 := hid (hY.out.below b2)
      have G2 := hid (hG.out.below b2)
      have B2 := hid (hB.out.trans (b2.mono hB.out.size))
      have GX := hid (G2.out.other (ds := #[.slice a n c, .int .i64 A1, .int .i64 E1]) (show w.heap.size + 1 + 1 ≠ w.heap.size by omega))
      have cG := GX.out.cellAt k _ NA.out
      have fG : (w2.setRow w.heap.size #[.slice a n c, .int .i64 A1, .int .i64 E1]).frozen? ⟨w.heap.size + 1 + 1, k, none⟩ = false := GX.out.froz
      have BH := X2.out
      unfold Blk at BH
      clear C1 LD hX hY hG hB b2 G2
      go_wp2_with (refine wpList_store_row rfl 102 (.tmp 2) (.tmp 19) rfl w.heap.size #[.slice a n c, .int .i64 A1, .int .i64 E1] rfl rfl 102 _ BH sizeRead rfl (by simp [Value.oneCell']) ?_)
      refine ⟨⟨k + 1, by omega, by go_num, ?_, ?_, ?_, ?_⟩, ?_⟩
      · rw [ES.out]; exact (X2.out.row _).cellO _ _ (by show w.heap.size ≠ w.heap.size + 1 + 1; omega)
      · exact (Y2.out.other (by omega)).cellO _ _ (by show w.heap.size + 1 ≠ w.heap.size + 1 + 1; omega)
      · rw [← NS.out]; exact GX.out.put _
      · exact (setRow_below B2.out (Nat.le_refl _)).setCell (by show w.heap.size ≤ w.heap.size + 1 + 1; omega) _
      · simp [intOf]; omega
    · obtain rfl : k = 3 := by omega
      have kb : ¬ (((3 : Nat) : Int) < (3 : Int)) := by omega
      have BH := hY.out
      unfold Blk at BH
      go_wp2_with (first | refine wpList_load_at 102 rfl (.tmp 2) rfl _ _ rfl _ LD ?_ | refine wpList_store_row rfl 102 (.tmp 4) (.tmp 23) rfl (w.heap.size + 1) #[.slice a n c, .int .i64 (lsS (tkI l) A E 3).1, .int .i64 (lsS (tkI l) A E 3).2] rfl rfl 102 _ BH sizeRead rfl (by simp [Value.oneCell']) ?_)
      refine bodyPost_ret (results_cell2 rfl rfl ((hY.out.row _).loadVar Try.underlying102 rfl sizeRead)) rfl ?_
      exact ⟨w.heap.size + 1 + 1, rfl, by omega, hG.out.other (by omega), setRow_below hB.out (by omega)⟩

set_option maxRecDepth 100000 in
theorem make_4 (w : World) : (Instr.makeSlice 75 (.int .i64 4) (.int .i64 4)).run Try.prog w = .ok (.slice (some ⟨w.heap.size, 0, none⟩) 4 4) (w.alloc (.cells #[.int .i64 0, .int .i64 0, .int .i64 0, .int .i64 0] 2)) := by kernel_rfl
set_option maxRecDepth 100000 in
set_option maxHeartbeats 4000000 in
theorem dnums4_any (a : Option Addr) (n c : Nat) (l : List Int) (A E : Int) (w : World) (hl : HoldsB w a n c l) (h0 : 0 ≤ A) (h1 : A ≤ n) :
    Calls Try.prog 52 #[.agg #[.slice a n c, .int .i64 A, .int .i64 E], .int .i64 4] w fun e w' => ∃ g, e = .returned (.tuple #[.agg #[.slice a n c, .int .i64 (lsS (tkI l) A E 4).1, .int .i64 (lsS (tkI l) A E 4).2], .slice (some ⟨g, 0, none⟩) 4 4]) ∧ w.heap.size ≤ g ∧ Blk w' g 2 #[.int .i64 (lsV (tkI l) A E 0), .int .i64 (lsV (tkI l) A E 1), .int .i64 (lsV (tkI l) A E 2), .int .i64 (lsV (tkI l) A E 3)] ∧ Below w.heap.size w w' := by
  have HL := hid hl
  have hlen := hl.1
  have hnm := hl.2.1
  have AT := hid (fun k => lsS_at (pe := tkI l) (n := n) (E := E) (fun A E h0 h1 => by have := tkI_at l A E h0 (by omega); omega) h0 h1 k)
  clear hl
  go_enter Try.func52, Try.ntmps52
  go_upto_region 3 with fail
  rw [make_4]
  go_upto_region 3 with fail
  have B0 := hid ((((Below.refl w.heap.size w).alloc (Nat.le_refl _) (.cells #[.slice a n c, .int .i64 A, .int .i64 E] 102)).alloc (by simp) (.cells #[.slice none 0 0, .int .i64 0, .int .i64 0] 102)).alloc (by simp; omega) (.cells #[.int .i64 0, .int .i64 0, .int .i64 0, .int .i64 0] 2))
  have X0 := hid (((Blk.alloc w #[.slice a n c, .int .i64 A, .int .i64 E] (102)).below ((Below.refl _ _).alloc (Nat.le_refl _) (.cells #[.slice none 0 0, .int .i64 0, .int .i64 0] 102))).below ((Below.refl _ _).alloc (Nat.le_refl _) (.cells #[.int .i64 0, .int .i64 0, .int .i64 0, .int .i64 0] 2)))
  have Y0 := hid ((Blk.alloc (w.alloc (.cells #[.slice a n c, .int .i64 A, .int .i64 E] 102)) #[.slice none 0 0, .int .i64 0, .int .i64 0] (102)).below ((Below.refl _ _).alloc (Nat.le_refl _) (.cells #[.int .i64 0, .int .i64 0, .int .i64 0, .int .i64 0] 2)))
  have G0 := hid (Blk.alloc ((w.alloc (.cells #[.slice a n c, .int .i64 A, .int .i64 E] 102)).alloc (.cells #[.slice none 0 0, .int .i64 0, .int .i64 0] 102)) #[.int .i64 0, .int .i64 0, .int .i64 0, .int .i64 0] (2))
  generalize (((w.alloc (.cells #[.slice a n c, .int .i64 A, .int .i64 E] 102)).alloc (.cells #[.slice none 0 0, .int .i64 0, .int .i64 0] 102)).alloc (.cells #[.int .i64 0, .int .i64 0, .int .i64 0, .int .i64 0] 2)) = W0 at *
  rw [World.size_alloc, World.size_alloc] at G0
  rw [World.size_alloc] at Y0
  go_loopw [11] (fun i wr => ∃ k : Nat, k ≤ 4 ∧ i = .int .i64 (k : Int) ∧ Hid (Blk wr w.heap.size 102 #[.slice a n c, .int .i64 (lsS (tkI l) A E k).1, .int .i64 (lsS (tkI l) A E k).2]) ∧ Hid (Blk wr (w.heap.size + 1) 102 #[.slice none 0 0, .int .i64 0, .int .i64 0]) ∧ Hid (Blk wr (w.heap.size + 1 + 1) 2 ((List.range 4).map (nuV l A E k)).toArray) ∧ Hid (Below w.heap.size w wr)) (fun i _ => 4 - (intOf i).toNat)
  case atStart => exact ⟨0, by omega, rfl, X0, Y0, G0, B0⟩
  case round =>
    clear X0 Y0 G0 B0
    obtain ⟨k, hk', rfl, hX, hY, hG, hB⟩ := hrel
    have LD := hX.out.loadAt Try.underlying102 rfl sizeRead
    by_cases hlt : k < 4
    · have ka : (0 : Int) ≤ (k : Int) := by omega
      have kb : (k : Int) < (4 : Int) := by omega
      have C1 := hid (dnum_any a n c l (lsS (tkI l) A E k).1 (lsS (tkI l) A E k).2 wr (HL.out.below hB.out) ⟨by have := AT.out k; omega, by have := AT.out k; omega⟩)
      have EV : Hid (lsV (tkI l) A E k = (tkI l (lsS (tkI l) A E k).1 (lsS (tkI l) A E k).2).1) := rfl
      have ES : Hid (lsS (tkI l) A E (k + 1) = (tkI l (lsS (tkI l) A E k).1 (lsS (tkI l) A E k).2).2) := rfl
      have NS := hid (nuV_set l A E k 4 hlt)
      have NA := hid (nuV_at l A E k 4 k hlt)
      generalize ((List.range 4).map (nuV l A E k)).toArray = CG at *
      generalize nuV l A E k k = nv at *
      generalize tkI l (lsS (tkI l) A E k).1 (lsS (tkI l) A E k).2 = Z at *
      obtain ⟨z, A1, E1⟩ := Z
      simp only at C1 EV ES
      rw [EV.out] at NS
      generalize (lsS (tkI l) A E k).1 = A0 at *
      generalize (lsS (tkI l) A E k).2 = E0 at *
      go_wp2_with (refine wpList_load_at 102 rfl (.tmp 2) rfl _ _ rfl _ LD ?_)
      with_reducible refine C1.out.mono ?_
      rintro e w2 ⟨rfl, b2⟩
      have X2 := hid (hX.out.below b2)
      have Y2 := hid (hY.out.below b2)
      have G2 := hid (hG.out.below b2)
      have B2 := hid (hB.out.trans (b2.mono hB.out.size))
      have GX := hid (G2.out.other (ds := #[.slice a n c, .int .i64 A1, .int .i64 E1]) (show w.heap.size + 1 + 1 ≠ w.heap.size by omega))
      have cG := GX.out.cellAt k _ NA.out
      have fG : (w2.setRow w.heap.size #[.slice a n c, .int .i64 A1, .int .i64 E1]).frozen? ⟨w.heap.size + 1 + 1, k, none⟩ = false := GX.out.froz
      have BH := X2.out
      unfold Blk at BH
      clear C1 LD hX hY hG hB b2 G2
      go_wp2_with (refine wpList_store_row rfl 102 (.tmp 2) (.tmp 19) rfl w.heap.size #[.slice a n c, .int .i64 A1, .int .i64 E1] rfl rfl 102 _ BH sizeRead rfl (by simp [Value.oneCell']) ?_)
      refine ⟨⟨k + 1, by omega, by go_num, ?_, ?_, ?_, ?_⟩, ?_⟩
      · rw [ES.out]; exact (X2.out.row _).cellO _ _ (by show w.heap.size ≠ w.heap.size + 1 + 1; omega)
      · exact (Y2.out.other (by omega)).cellO _ _ (by show w.heap.size + 1 ≠ w.heap.size + 1 + 1; omega)
      · rw [← NS.out]; exact GX.out.put _
      · exact (setRow_below B2.out (Nat.le_refl _)).setCell (by show w.heap.size ≤ w.heap.size + 1 + 1; omega) _
      · simp [intOf]; omega
    · obtain rfl : k = 4 := by omega
      have kb : ¬ (((4 : Nat) : Int) < (4 : Int)) := by omega
      have BH := hY.out
      unfold Blk at BH
      go_wp2_with (first | refine wpList_load_at 102 rfl (.tmp 2) rfl _ _ rfl _ LD ?_ | refine wpList_store_row rfl 102 (.tmp 4) (.tmp 23) rfl (w.heap.size + 1) #[.slice a n c, .int .i64 (lsS (tkI l) A E 4).1, .int .i64 (lsS (tkI l) A E 4).2] rfl rfl 102 _ BH sizeRead rfl (by simp [Value.oneCell']) ?_)
      refine bodyPost_ret (results_cell2 rfl rfl ((hY.out.row _).loadVar Try.underlying102 rfl sizeRead)) rfl ?_
      exact ⟨w.heap.size + 1 + 1, rfl, by omega, hG.out.other (by omega), setRow_below hB.out (by omega)⟩

set_option maxRecDepth 100000 in
theorem make_5 (w : World) : (Instr.makeSlice 75 (.int .i64 5) (.int .i64 5)).run Try.prog w = .ok (.slice (some ⟨w.heap.size, 0, none⟩) 5 5) (w.alloc (.cells #[.int .i64 0, .int .i64 0, .int .i64 0, .int .i64 0, .int .i64 0] 2)) := by kernel_rfl
set_option maxRecDepth 100000 in
set_option maxHeartbeats 4000000 in
theorem dnums5_any (a : Option Addr) (n c : Nat) (l : List Int) (A E : Int) (w : World) (hl : HoldsB w a n c l) (h0 : 0 ≤ A) (h1 : A ≤ n) :
    Calls Try.prog 52 #[.agg #[.slice a n c, .int .i64 A, .int .i64 E], .int .i64 5] w fun e w' => ∃ g, e = .returned (.tuple #[.agg #[.slice a n c, .int .i64 (lsS (tkI l) A E 5).1, .int .i64 (lsS (tkI l) A E 5).2], .slice (some ⟨g, 0, none⟩) 5 5]) ∧ w.heap.size ≤ g ∧ Blk w' g 2 #[.int .i64 (lsV (tkI l) A E 0), .int .i64 (lsV (tkI l) A E 1), .int .i64 (lsV (tkI l) A E 2), .int .i64 (lsV (tkI l) A E 3), .int .i64 (lsV (tkI l) A E 4)] ∧ Below w.heap.size w w' := by
  have HL := hid hl
  have hlen := hl.1
  have hnm := hl.2.1
  have AT := hid (fun k => lsS_at (pe := tkI l) (n := n) (E := E) (fun A E h0 h1 => by have := tkI_at l A E h0 (by omega); omega) h0 h1 k)
  clear hl
  go_enter Try.func52, Try.ntmps52
  go_upto_region 3 with fail
  rw [make_5]
  go_upto_region 3 with fail
  have B0 := hid ((((Below.refl w.heap.size w).alloc (Nat.le_refl _) (.cells #[.slice a n c, .int .i64 A, .int .i64 E] 102)).alloc (by simp) (.cells #[.slice none 0 0, .int .i64 0, .int .i64 0] 102)).alloc (by simp; omega) (.cells #[.int .i64 0, .int .i64 0, .int .i64 0, .int .i64 0, .int .i64 0] 2))
  have X0 := hid (((Blk.alloc w #[.slice a n c, .int .i64 A, .int .i64 E] (102)).below ((Below.refl _ _).alloc (Nat.le_refl _) (.cells #[.slice none 0 0, .int .i64 0, .int .i64 0] 102))).below ((Below.refl _ _).alloc (Nat.le_refl _) (.cells #[.int .i64 0, .int .i64 0, .int .i64 0, .int .i64 0, .int .i64 0] 2)))
  have Y0 := hid ((Blk.alloc (w.alloc (.cells #[.slice a n c, .int .i64 A, .int .i64 E] 102)) #[.slice none 0 0, .int .i64 0, .int .i64 0] (102)).below ((Below.refl _ _).alloc (Nat.le_refl _) (.cells #[.int .i64 0, .int .i64 0, .int .i64 0, .int .i64 0, .int .i64 0] 2)))
  have G0 := hid (Blk.alloc ((w.alloc (.cells #[.slice a n c, .int .i64 A, .int .i64 E] 102)).alloc (.cells #[.slice none 0 0, .int .i64 0, .int .i64 0] 102)) #[.int .i64 0, .int .i64 0, .int .i64 0, .int .i64 0, .int .i64 0] (2))
  generalize (((w.alloc (.cells #[.slice a n c, .int .i64 A, .int .i64 E] 102)).alloc (.cells #[.slice none 0 0, .int .i64 0, .int .i64 0] 102)).alloc (.cells #[.int .i64 0, .int .i64 0, .int .i64 0, .int .i64 0, .int .i64 0] 2)) = W0 at *
  rw [World.size_alloc, World.size_alloc] at G0
  rw [World.size_alloc] at Y0
  go_loopw [11] (fun i wr => ∃ k : Nat, k ≤ 5 ∧ i = .int .i64 (k : Int) ∧ Hid (Blk wr w.heap.size 102 #[.slice a n c, .int .i64 (lsS (tkI l) A E k).1, .int .i64 (lsS (tkI l) A E k).2]) ∧ Hid (Blk wr (w.heap.size + 1) 102 #[.slice none 0 0, .int .i64 0, .int .i64 0]) ∧ Hid (Blk wr (w.heap.size + 1 + 1) 2 ((List.range 5).map (nuV l A E k)).toArray) ∧ Hid (Below w.heap.size w wr)) (fun i _ => 5 - (intOf i).toNat)
  case atStart => exact ⟨0, by omega, rfl, X0, Y0, G0, B0⟩
  case round =>
    clear X0 Y0 G0 B0
    obtain ⟨k, hk', rfl, hX, hY, hG, hB⟩ := hrel
    have LD := hX.out.loadAt Try.underlying102 rfl sizeRead
    by_cases hlt : k < 5
    · have ka : (0 : Int) ≤ (k : Int) := by omega
      have kb : (k : Int) < (5 : Int) := by omega
      have C1 := hid (dnum_any a n c l (lsS (tkI l) A E k).1 (lsS (tkI l) A E k).2 wr (HL.out.below hB.out) ⟨by have := AT.out k; omega, by have := AT.out k; omega⟩)
      have EV : Hid (lsV (tkI l) A E k = (tkI l (lsS (tkI l) A E k).1 (lsS (tkI l) A E k).2).1) := rfl
      have ES : Hid (lsS (tkI l) A E (k + 1) = (tkI l (lsS (tkI l) A E k).1 (lsS (tkI l) A E k).2).2) := rfl
      have NS := hid (nuV_set l A E k 5 hlt)
      have NA := hid (nuV_at l A E k 5 k hlt)
      generalize ((List.range 5).map (nuV l A E k)).toArray = CG at *
      generalize nuV l A E k k = nv at *
      generalize tkI l (lsS (tkI l) A E k).1 (lsS (tkI l) A E k).2 = Z at *
      obtain ⟨z, A1, E1⟩ := Z
      simp only at C1 EV ES
      rw [EV.out] at NS
      generalize (lsS (tkI l) A E k).1 = A0 at *
      generalize (lsS (tkI l) A E k).2 = E0 at *
      go_wp2_with (refine wpList_load_at 102 rfl (.tmp 2) rfl _ _ rfl _ LD ?_)
      with_reducible refine C1.out.mono ?_
      rintro e w2 ⟨rfl, b2⟩
      have X2 := hid (hX.out.below b2)
      have Y2 := hid (hY.out.below b2)
      have G2 := hid (hG.out.below b2)
      have B2 := hid (hB.out.trans (b2.mono hB.out.size))
      have GX := hid (G2.out.other (ds := #[.slice a n c, .int .i64 A1, .int .i64 E1]) (show w.heap.size + 1 + 1 ≠ w.heap.size by omega))
      have cG := GX.out.cellAt k _ NA.out
      have fG : (w2.setRow w.heap.size #[.slice a n c, .int .i64 A1, .int .i64 E1]).frozen? ⟨w.heap.size + 1 + 1, k, none⟩ = false := GX.out.froz
      have BH := X2.out
      unfold Blk at BH
      clear C1 LD hX hY hG hB b2 G2
      go_wp2_with (refine wpList_store_row rfl 102 (.tmp 2) (.tmp 19) rfl w.heap.size #[.slice a n c, .int .i64 A1, .int .i64 E1] rfl rfl 102 _ BH sizeRead rfl (by simp [Value.oneCell']) ?_)
      refine ⟨⟨k + 1, by omega, by go_num, ?_, ?_, ?_, ?_⟩, ?_⟩
      · rw [ES.out]; exact (X2.out.row _).cellO _ _ (by show w.heap.size ≠ w.heap.size + 1 + 1; omega)
      · exact (Y2.out.other (by omega)).cellO _ _ (by show w.heap.size + 1 ≠ w.heap.size + 1 + 1; omega)
      · rw [← NS.out]; exact GX.out.put _
      · exact (setRow_below B2.out (Nat.le_refl _)).setCell (by show w.heap.size ≤ w.heap.size + 1 + 1; omega) _
      · simp [intOf]; omega
    · obtain rfl : k = 5 := by omega
      have kb : ¬ (((5 : Nat) : Int) < (5 : Int)) := by omega
      have BH := hY.out
      unfold Blk at BH
      go_wp2_with (first | refine wpList_load_at 102 rfl (.tmp 2) rfl _ _ rfl _ LD ?_ | refine wpList_store_row rfl 102 (.tmp 4) (.tmp 23) rfl (w.heap.size + 1) #[.slice a n c, .int .i64 (lsS (tkI l) A E 5).1, .int .i64 (lsS (tkI l) A E 5).2] rfl rfl 102 _ BH sizeRead rfl (by simp [Value.oneCell']) ?_)
      refine bodyPost_ret (results_cell2 rfl rfl ((hY.out.row _).loadVar Try.underlying102 rfl sizeRead)) rfl ?_
      exact ⟨w.heap.size + 1 + 1, rfl, by omega, hG.out.other (by omega), setRow_below hB.out (by omega)⟩

set_option maxRecDepth 100000 in
theorem make_7 (w : World) : (Instr.makeSlice 75 (.int .i64 7) (.int .i64 7)).run Try.prog w = .ok (.slice (some ⟨w.heap.size, 0, none⟩) 7 7) (w.alloc (.cells #[.int .i64 0, .int .i64 0, .int .i64 0, .int .i64 0, .int .i64 0, .int .i64 0, .int .i64 0] 2)) := by kernel_rfl
set_option maxRecDepth 100000 in
set_option maxHeartbeats 4000000 in
theorem dnums7_any (a : Option Addr) (n c : Nat) (l : List Int) (A E : Int) (w : World) (hl : HoldsB w a n c l) (h0 : 0 ≤ A) (h1 : A ≤ n) :
    Calls Try.prog 52 #[.agg #[.slice a n c, .int .i64 A, .int .i64 E], .int .i64 7] w fun e w' => ∃ g, e = .returned (.tuple #[.agg #[.slice a n c, .int .i64 (lsS (tkI l) A E 7).1, .int .i64 (lsS (tkI l) A E 7).2], .slice (some ⟨g, 0, none⟩) 7 7]) ∧ w.heap.size ≤ g ∧ Blk w' g 2 #[.int .i64 (lsV (tkI l) A E 0), .int .i64 (lsV (tkI l) A E 1), .int .i64 (lsV (tkI l) A E 2), .int .i64 (lsV (tkI l) A E 3), .int .i64 (lsV (tkI l) A E 4), .int .i64 (lsV (tkI l) A E 5), .int .i64 (lsV (tkI l) A E 6)] ∧ Below w.heap.size w w' := by
  have HL := hid hl
  have hlen := hl.1
  have hnm := hl.2.1
  have AT := hid (fun k => lsS_at (pe := tkI l) (n := n) (E := E) (fun A E h0 h1 => by have := tkI_at l A E h0 (by omega); omega) h0 h1 k)
  clear hl
  go_enter Try.func52, Try.ntmps52
  go_upto_region 3 with fail
  rw [make_7]
  go_upto_region 3 with fail
  have B0 := hid ((((Below.refl w.heap.size w).alloc (Nat.le_refl _) (.cells #[.slice a n c, .int .i64 A, .int .i64 E] 102)).alloc (by simp) (.cells #[.slice none 0 0, .int .i64 0, .int .i64 0] 102)).alloc (by simp; omega) (.cells #[.int .i64 0, .int .i64 0, .int .i64 0, .int .i64 0, .int .i64 0, .int .i64 0, .int .i64 0] 2))
  have X0 := hid (((Blk.alloc w #[.slice a n c, .int .i64 A, .int .i64 E] (102)).below ((Below.refl _ _).alloc (Nat.le_refl _) (.cells #[.slice none 0 0, .int .i64 0, .int .i64 0] 102))).below ((Below.refl _ _).alloc (Nat.le_refl _) (.cells #[.int .i64 0, .int .i64 0, .int .i64 0, .int .i64 0, .int .i64 0, .int .i64 0, .int .i64 0] 2)))
  have Y0 := hid ((Blk.alloc (w.alloc (.cells #[.slice a n c, .int .i64 A, .int .i64 E] 102)) #[.slice none 0 0, .int .i64 0, .int .i64 0] (102)).below ((Below.refl _ _).alloc (Nat.le_refl _) (.cells #[.int .i64 0, .int .i64 0, .int .i64 0, .int .i64 0, .int .i64 0, .int .i64 0, .int .i64 0] 2)))
  have G0 := hid (Blk.alloc ((w.alloc (.cells #[.slice a n c, .int .i64 A, .int .i64 E] 102)).alloc (.cells #[.slice none 0 0, .int .i64 0, .int .i64 0] 102)) #[.int .i64 0, .int .i64 0, .int .i64 0, .int .i64 0, .int .i64 0, .int .i64 0, .int .i64 0] (2))
  generalize (((w.alloc (.cells #[.slice a n c, .int .i64 A, .int .i64 E] 102)).alloc (.cells #[.slice none 0 0, .int .i64 0, .int .i64 0] 102)).alloc (.cells #[.int .i64 0, .int .i64 0, .int .i64 0, .int .i64 0, .int .i64 0, .int .i64 0, .int .i64 0] 2)) = W0 at *
  rw [World.size_alloc, World.size_alloc] at G0
  rw [World.size_alloc] at Y0
  go_loopw [11] (fun i wr => ∃ k : Nat, k ≤ 7 ∧ i = .int .i64 (k : Int) ∧ Hid (Blk wr w.heap.size 102 #[.slice a n c, .int .i64 (lsS (tkI l) A E k).1, .int .i64 (lsS (tkI l) A E k).2]) ∧ Hid (Blk wr (w.heap.size + 1) 102 #[.slice none 0 0, .int .i64 0, .int .i64 0]) ∧ Hid (Blk wr (w.heap.size + 1 + 1) 2 ((List.range 7).map (nuV l A E k)).toArray) ∧ Hid (Below w.heap.size w wr)) (fun i _ => 7 - (intOf i).toNat)
  case atStart => exact ⟨0, by omega, rfl, X0, Y0, G0, B0⟩
  case round =>
    clear X0 Y0 G0 B0
    obtain ⟨k, hk', rfl, hX, hY, hG, hB⟩ := hrel
    have LD := hX.out.loadAt Try.underlying102 rfl sizeRead
    by_cases hlt : k < 7
    · have ka : (0 : Int) ≤ (k : Int) := by omega
      have kb : (k : Int) < (7 : Int) := by omega
      have C1 := hid (dnum_any a n c l (lsS (tkI l) A E k).1 (lsS (tkI l) A E k).2 wr (HL.out.below hB.out) ⟨by have := AT.out k; omega, by have := AT.out k; omega⟩)
      have EV : Hid (lsV (tkI l) A E k = (tkI l (lsS (tkI l) A E k).1 (lsS (tkI l) A E k).2).1) := rfl
      have ES : Hid (lsS (tkI l) A E (k + 1) = (tkI l (lsS (tkI l) A E k).1 (lsS (tkI l) A E k).2).2) := rfl
      have NS := hid (nuV_set l A E k 7 hlt)
      have NA := hid (nuV_at l A E k 7 k hlt)
      generalize ((List.range 7).map (nuV l A E k)).toArray = CG at *
      generalize nuV l A E k k = nv at *
      generalize tkI l (lsS (tkI l) A E k).1 (lsS (tkI l) A E k).2 = Z at *
      obtain ⟨z, A1, E1⟩ := Z
      simp only at C1 EV ES
      rw [EV.out] at NS
      generalize (lsS (tkI l) A E k).1 = A0 at *
      generalize (lsS (tkI l) A E k).2 = E0 at *
      go_wp2_with (refine wpList_load_at 102 rfl (.tmp 2) rfl _ _ rfl _ LD ?_)
      with_reducible refine C1.out.mono ?_
      rintro e w2 ⟨rfl, b2⟩
      have X2 := hid (hX.out.below b2)
      have Y2 := hid (hY.out.below b2)
      have G2 := hid (hG.out.below b2)
      have B2 := hid (hB.out.trans (b2.mono hB.out.size))
      have GX := hid (G2.out.other (ds := #[.slice a n c, .int .i64 A1, .int .i64 E1]) (show w.heap.size + 1 + 1 ≠ w.heap.size by omega))
      have cG := GX.out.cellAt k _ NA.out
      have fG : (w2.setRow w.heap.size #[.slice a n c, .int .i64 A1, .int .i64 E1]).frozen? ⟨w.heap.size + 1 + 1, k, none⟩ = false := GX.out.froz
      have BH := X2.out
      unfold Blk at BH
      clear C1 LD hX hY hG hB b2 G2
      go_wp2_with (refine wpList_store_row rfl 102 (.tmp 2) (.tmp 19) rfl w.heap.size #[.slice a n c, .int .i64 A1, .int .i64 E1] rfl rfl 102 _ BH sizeRead rfl (by simp [Value.oneCell']) ?_)
      refine ⟨⟨k + 1, by omega, by go_num, ?_, ?_, ?_, ?_⟩, ?_⟩
      · rw [ES.out]; exact (X2.out.row _).cellO _ _ (by show w.heap.size ≠ w.heap.size + 1 + 1; omega)
      · exact (Y2.out.other (by omega)).cellO _ _ (by show w.heap.size + 1 ≠ w.heap.size + 1 + 1; omega)
      · rw [← NS.out]; exact GX.out.put _
      · exact (setRow_below B2.out (Nat.le_refl _)).setCell (by show w.heap.size ≤ w.heap.size + 1 + 1; omega) _
      · simp [intOf]; omega
    · obtain rfl : k = 7 := by omega
      have kb : ¬ (((7 : Nat) : Int) < (7 : Int)) := by omega
      have BH := hY.out
      unfold Blk at BH
      go_wp2_with (first | refine wpList_load_at 102 rfl (.tmp 2) rfl _ _ rfl _ LD ?_ | refine wpList_store_row rfl 102 (.tmp 4) (.tmp 23) rfl (w.heap.size + 1) #[.slice a n c, .int .i64 (lsS (tkI l) A E 7).1, .int .i64 (lsS (tkI l) A E 7).2] rfl rfl 102 _ BH sizeRead rfl (by simp [Value.oneCell']) ?_)
      refine bodyPost_ret (results_cell2 rfl rfl ((hY.out.row _).loadVar Try.underlying102 rfl sizeRead)) rfl ?_
      exact ⟨w.heap.size + 1 + 1, rfl, by omega, hG.out.other (by omega), setRow_below hB.out (by omega)⟩
end Go.Proofs.Ythkbddnkcljjpaa

namespace Go.Proofs.Ythkbddnkcljjpaa
open Go.RowKit Go.Deep Go.Maps
set_option linter.unusedVariables false
set_option linter.unusedSimpArgs false
theorem Blk.low {W W' : World} {Q t base : Nat} {cs : Array Value} (h : Blk W Q t cs) (hb : Below base W W') (hq : Q < base) : Blk W' Q t cs := (hb.block Q hq).trans h
set_option maxRecDepth 100000 in
set_option maxHeartbeats 8000000 in
theorem dlist_any (a : Option Addr) (n c : Nat) (l : List Int) (A E : Int) (w : World) (hl : HoldsB w a n c l) (h0 : 0 ≤ A) (h1 : A ≤ n) :
    Calls Try.prog 60 #[.agg #[.slice a n c, .int .i64 A, .int .i64 E]] w fun e w' => ∃ v, e = .returned (.tuple #[.agg #[.slice a n c, .int .i64 (liF (tkI l) l A E).1, .int .i64 (liF (tkI l) l A E).2], v]) ∧ ((liF (tkI l) l A E).2 = 0 → OwnN w.heap.size w' v (liC (tkI l) l A E) (liL (tkI l) l A E)) ∧ ((liF (tkI l) l A E).2 ≠ 0 → v = .slice none 0 0) ∧ Below w.heap.size w w' := by
  have HL := hid hl
  have hlen := hl.1
  have hnm := hl.2.1
  have hbb := hl.2.2.2.2.1
  have CB := hid (upT_bd l A E 1024 3 hbb (by omega))
  have AT := hid (upT_at l A E 1024 3 h0 (by omega))
  have AS := hid (fun k => lsS_at (pe := tkI l) (n := n) (E := (upT l A E 1024 3).2.2) (fun A E h0 h1 => by have := tkI_at l A E h0 (by omega); omega) AT.out.1 (by have := AT.out.2; omega) k)
  have NN : Hid (liC (tkI l) l A E = lsN (tkI l) (upT l A E 1024 3).2.1 (upT l A E 1024 3).2.2 (upT l A E 1024 3).1.toNat 0) := rfl
  have FF : Hid (liF (tkI l) l A E = if liC (tkI l) l A E < (upT l A E 1024 3).1.toNat then lsS (tkI l) (upT l A E 1024 3).2.1 (upT l A E 1024 3).2.2 (liC (tkI l) l A E + 1) else lsS (tkI l) (upT l A E 1024 3).2.1 (upT l A E 1024 3).2.2 (liC (tkI l) l A E)) := rfl
  have PV : Hid (∀ k, liV (tkI l) l A E k = lsV (tkI l) (upT l A E 1024 3).2.1 (upT l A E 1024 3).2.2 k) := fun k => rfl
  have LT := hid (fun k => liT_succ (tkI l) l A E k)
  have LA : Hid (liT (tkI l) l A E (liC (tkI l) l A E) = liL (tkI l) l A E) := rfl
  have LZ : Hid (liT (tkI l) l A E 0 = []) := rfl
  have TOT := hid (fun W (H : HoldsB W a n c l) => dtotal_any a n c l A E W H ⟨by omega, by omega⟩)
  clear hl
  generalize hli : liC (tkI l) l A E = N at *
  generalize liF (tkI l) l A E = FN at *
  generalize hup : upT l A E 1024 3 = U at *
  obtain ⟨cc, A0, E0⟩ := U
  simp only at CB AT AS NN FF PV TOT
  obtain ⟨C, rfl⟩ : ∃ C : Nat, cc = (C : Int) := ⟨cc.toNat, by have := CB.out.1; omega⟩
  have hC : C ≤ 1024 := by have := CB.out.2; omega
  have NL := hid (lsN_le (tkI l) A0 E0 C 0)
  have NY := hid (lsN_yes (tkI l) A0 E0 C 0)
  have NO := hid (lsN_no (tkI l) A0 E0 C 0)
  have FE0 : Hid (C = 0 → FN = (A0, E0)) := fun h => by
    subst h
    rw [FF.out, if_neg (by simp), NN.out]; rfl
  simp only [Int.toNat_natCast] at NN FF
  rw [← NN.out] at NL NY NO
  have hNC : N ≤ C := by have := NL.out.2; omega
  clear NN CB AT hup hli NL
  go_enter Try.func60, Try.ntmps60
  go_upto_region 1 with fail
  have B0 := hid (((Below.refl w.heap.size w).alloc (Nat.le_refl _) (.cells #[.slice a n c, .int .i64 A, .int .i64 E] 102)).alloc (by simp) (.cells #[.slice none 0 0, .int .i64 0, .int .i64 0] 102))
  have X0 := hid ((Blk.alloc w #[.slice a n c, .int .i64 A, .int .i64 E] (102)).below ((Below.refl _ _).alloc (Nat.le_refl _) (.cells #[.slice none 0 0, .int .i64 0, .int .i64 0] 102)))
  have Y0 := hid (Blk.alloc (w.alloc (.cells #[.slice a n c, .int .i64 A, .int .i64 E] 102)) #[.slice none 0 0, .int .i64 0, .int .i64 0] (102))
  have s0 : Hid (w.heap.size + 2 ≤ ((w.alloc (.cells #[.slice a n c, .int .i64 A, .int .i64 E] 102)).alloc (.cells #[.slice none 0 0, .int .i64 0, .int .i64 0] 102)).heap.size) := by unfold Hid; simp
  generalize ((w.alloc (.cells #[.slice a n c, .int .i64 A, .int .i64 E] 102)).alloc (.cells #[.slice none 0 0, .int .i64 0, .int .i64 0] 102)) = W0 at *
  rw [World.size_alloc] at Y0
  have LD := X0.out.loadAt Try.underlying102 rfl sizeRead
  have C0 := hid (TOT.out W0 (HL.out.below B0.out))
  go_wp2_with (refine wpList_load_at 102 rfl (.tmp 1) rfl _ _ rfl _ LD ?_)
  with_reducible refine C0.out.mono ?_
  rintro e w1 ⟨rfl, b1⟩
  have X1 := hid (X0.out.below b1)
  have Y1 := hid ((Y0.out.below b1).other (ds := #[.slice a n c, .int .i64 A0, .int .i64 E0]) (show w.heap.size + 1 ≠ w.heap.size by omega))
  have BX := X1.out
  unfold Blk at BX
  have XR := hid (X1.out.row #[.slice a n c, .int .i64 A0, .int .i64 E0])
  have BR := hid (setRow_below (q := w.heap.size) (cs := #[.slice a n c, .int .i64 A0, .int .i64 E0]) (B0.out.trans (b1.mono B0.out.size)) (Nat.le_refl _))
  have s1 : Hid (w.heap.size + 2 ≤ (w1.setRow w.heap.size #[.slice a n c, .int .i64 A0, .int .i64 E0]).heap.size) := by unfold Hid; have := s0.out; have := b1.size; simp; omega
  clear C0 LD X0 Y0 B0 b1 s0 TOT X1
  go_upto_region 4 with (refine wpList_store_row rfl 102 (.tmp 1) (.tmp 10) rfl w.heap.size #[.slice a n c, .int .i64 A0, .int .i64 E0] rfl rfl 102 _ BX sizeRead rfl (by simp [Value.oneCell']) ?_)
  clear BX
  generalize w1.setRow w.heap.size #[.slice a n c, .int .i64 A0, .int .i64 E0] = W2 at *
  go_loopw [5, 13] (fun v i wr => ∃ k : Nat, k ≤ N ∧ i = .int .i64 (k : Int) ∧ Hid (OwnN (w.heap.size + 2) wr v k (liT (tkI l) l A E k)) ∧ Hid (Blk wr w.heap.size 102 #[.slice a n c, .int .i64 (lsS (tkI l) A0 E0 k).1, .int .i64 (lsS (tkI l) A0 E0 k).2]) ∧ Hid (Blk wr (w.heap.size + 1) 102 #[.slice none 0 0, .int .i64 0, .int .i64 0]) ∧ Hid (Below w.heap.size w wr) ∧ Hid (w.heap.size + 2 ≤ wr.heap.size) ∧ Hid (0 < k → (lsS (tkI l) A0 E0 k).2 = 0) ∧ Hid (k = 0 → v = .slice none 0 0)) (fun _ i _ => N + 1 - (intOf i).toNat)
  case atStart => exact ⟨0, by omega, rfl, by unfold Hid; rw [LZ.out]; exact OwnE.nil _ _ _ _ _, XR, Y1, BR, s1, fun h => absurd h (by omega), fun _ => rfl⟩
  case round =>
    clear XR Y1 BR s1
    obtain ⟨k, hk', rfl, hO, hX, hY, hB, hs, hz, hv⟩ := hrel
    have LD := hX.out.loadAt Try.underlying102 rfl sizeRead
    have ka : (0 : Int) ≤ (k : Int) := by omega
    by_cases hlt : k < C
    · have kb : (k : Int) < (C : Int) := by omega
      have C1 := hid (dnum_any a n c l (lsS (tkI l) A0 E0 k).1 (lsS (tkI l) A0 E0 k).2 wr (HL.out.below hB.out) ⟨by have := AS.out k; omega, by have := AS.out k; omega⟩)
      have EV : Hid (lsV (tkI l) A0 E0 k = (tkI l (lsS (tkI l) A0 E0 k).1 (lsS (tkI l) A0 E0 k).2).1) := rfl
      have ES : Hid (lsS (tkI l) A0 E0 (k + 1) = (tkI l (lsS (tkI l) A0 E0 k).1 (lsS (tkI l) A0 E0 k).2).2) := rfl
      generalize tkI l (lsS (tkI l) A0 E0 k).1 (lsS (tkI l) A0 E0 k).2 = Z at *
      obtain ⟨z, A1, E1⟩ := Z
      simp only at C1 EV ES
      generalize (lsS (tkI l) A0 E0 k).1 = Ak at *
      generalize (lsS (tkI l) A0 E0 k).2 = Ek at *
      go_wp2_with (refine wpList_load_at 102 rfl (.tmp 1) rfl _ _ rfl _ LD ?_)
      with_reducible refine C1.out.mono ?_
      rintro e w2 ⟨rfl, b2⟩
      have X2 := hid (hX.out.below b2)
      have X3 := hid (X2.out.row #[.slice a n c, .int .i64 A1, .int .i64 E1])
      have Y3 := hid ((hY.out.below b2).other (ds := #[.slice a n c, .int .i64 A1, .int .i64 E1]) (show w.heap.size + 1 ≠ w.heap.size by omega))
      have O3 := hid ((hO.out.below b2).row (q := w.heap.size) (by omega) #[.slice a n c, .int .i64 A1, .int .i64 E1])
      have B3 := hid (setRow_below (q := w.heap.size) (cs := #[.slice a n c, .int .i64 A1, .int .i64 E1]) (hB.out.trans (b2.mono hB.out.size)) (Nat.le_refl _))
      have s3 : Hid (w.heap.size + 2 ≤ (w2.setRow w.heap.size #[.slice a n c, .int .i64 A1, .int .i64 E1]).heap.size) := by unfold Hid; have := hs.out; have := b2.size; simp; omega
      have BX := X2.out
      unfold Blk at BX
      clear C1 LD hX hY hB b2 hO hs X2
      go_upto_region 7 with (refine wpList_store_row rfl 102 (.tmp 1) (.tmp 18) rfl w.heap.size #[.slice a n c, .int .i64 A1, .int .i64 E1] rfl rfl 102 _ BX sizeRead rfl (by simp [Value.oneCell']) ?_)
      clear BX
      generalize w2.setRow w.heap.size #[.slice a n c, .int .i64 A1, .int .i64 E1] = w3 at *
      have c2 := X3.out.cellAt 2 (.int .i64 E1) rfl
      have LD := X3.out.loadAt Try.underlying102 rfl sizeRead
      have BY := Y3.out
      unfold Blk at BY
      by_cases hE : E1 = 0
      · subst hE
        have hN : k < N := by
          apply Classical.byContradiction
          intro h
          have e : N = k := by omega
          have := NO.out (by omega)
          rw [e, ES.out] at this
          exact this rfl
        clear LD BY
        go_wp2_with (at_builtin; refine push_ownE 28 3 (.int .i64 0) 8 encN_len encN_one Try.underlying28 infoN rfl (by decide) w3 z rfl (.tmp 24) (.tmp 26) rfl (w.heap.size + 2) k u5 _ #[.int .i64 z] rfl rfl O3.out s3.out (by simp [Act.eval]) (by omega) (by omega) ?_)
        intro v4 w4 h4 b4 g4
        have O4 : Hid (OwnN (w.heap.size + 2) w4 v4 (k + 1) (liT (tkI l) l A E (k + 1))) := by unfold Hid; rw [LT.out, PV.out, EV.out]; exact h4
        have X4 := hid (X3.out.low b4 (by omega))
        have Y4 := hid (Y3.out.low b4 (by omega))
        have B4 := hid (B3.out.trans (b4.mono (by omega)))
        have s4 : Hid (w.heap.size + 2 ≤ w4.heap.size) := by unfold Hid; have := b4.size; have := s3.out; omega
        clear h4 b4 g4 O3 X3 Y3 B3 s3 c2
        go_wp2_with fail
        refine ⟨⟨k + 1, by omega, by go_num, O4, by unfold Hid; rw [ES.out]; exact X4.out, Y4, B4, s4, (fun _ => by rw [ES.out]), (fun h => absurd h (by omega))⟩, ?_⟩
        simp [intOf]; omega
      · have tE : (E1 != 0) = true := by simpa using hE
        have hN : N = k := by
          apply Classical.byContradiction
          intro h
          have := NY.out k (by omega) (by omega)
          rw [ES.out] at this
          exact hE this
        have F1 : Hid (FN = (A1, E1)) := by unfold Hid; rw [FF.out, if_pos (by omega), hN, ES.out]
        have HE := hid hE
        clear hE hN O3
        go_wp2_with (first | refine wpList_load_at 102 rfl (.tmp 1) rfl _ _ rfl _ LD ?_ | refine wpList_store_row rfl 102 (.tmp 2) (.tmp 23) rfl (w.heap.size + 1) #[.slice a n c, .int .i64 A1, .int .i64 E1] rfl rfl 102 _ BY sizeRead rfl (by simp [Value.oneCell']) ?_)
        refine bodyPost_ret (results_cell2 rfl rfl ((Y3.out.row _).loadVar Try.underlying102 rfl sizeRead)) rfl ?_
        rw [F1.out]
        exact ⟨_, rfl, (fun h => absurd h HE.out), fun _ => rfl, setRow_below B3.out (by omega)⟩
    · have kc : k = C := by omega
      have kn : N = k := by omega
      subst kn
      have kb : ¬ ((N : Int) < (C : Int)) := by omega
      have F1 : Hid (FN = lsS (tkI l) A0 E0 N) := by unfold Hid; rw [FF.out, if_neg (by omega)]
      have BY := hY.out
      unfold Blk at BY
      rw [LA.out] at hO
      generalize lsS (tkI l) A0 E0 N = SN at *
      subst kc
      go_wp2_with (first | refine wpList_load_at 102 rfl (.tmp 1) rfl _ _ rfl _ LD ?_ | refine wpList_store_row rfl 102 (.tmp 2) (.tmp 29) rfl (w.heap.size + 1) #[.slice a n c, .int .i64 SN.1, .int .i64 SN.2] rfl rfl 102 _ BY sizeRead rfl (by simp [Value.oneCell']) ?_)
      refine bodyPost_ret (results_cell2 rfl rfl ((hY.out.row _).loadVar Try.underlying102 rfl sizeRead)) rfl ?_
      rw [F1.out]
      refine ⟨_, rfl, fun _ => (hO.out.row (by omega) _).weaken (by omega), fun h => ?_, setRow_below hB.out (by omega)⟩
      by_cases h0 : N = 0
      · exact hv.out h0
      · exact absurd (hz.out (by omega)) h
end Go.Proofs.Ythkbddnkcljjpaa

namespace Go.Proofs.Ythkbddnkcljjpaa
open Go.RowKit Go.Deep Go.Maps
set_option linter.unusedVariables false
set_option linter.unusedSimpArgs false
theorem results_cells2 {fn : Func} {t t' : Tmp} {ty ty' : TypeId} (h : fn.results = #[.cell t ty, .cell t' ty']) {tmps : Array Value} {P : Program} {w : World} {a a' : Addr} {v v' : Value} (ht : tmps.getD t undef = .pointer (some a)) (ht' : tmps.getD t' undef = .pointer (some a')) (hl : (loadVar ty a).run P w = .ok v w) (hl' : (loadVar ty' a').run P w = .ok v' w) : (results fn tmps).run P w = .ok (.tuple #[v, v']) w := by
  rw [Array.getD_eq_getD_getElem?] at ht ht'
  simp [results, h, ht, ht', asAddr, hl, hl']
set_option maxRecDepth 100000 in
theorem yieldsIf_build {ops : Array Oper} {S : World → Prop} {op : Oper} {a : Act} (hw : Region.wanted op (yielded ops a.tmps) = true) (t : TypeId) (parts : Array (Nat × Operand)) (ho : op.op = .build t parts) (cs : Array Value) (hb : Try.prog.built t (parts.map fun (i, x) => (i, a.eval x)).toList = some cs) : YieldsIf Try.prog ops S op (.agg cs) a :=
  .inl ⟨hw, fun w hw' => by
    have hr := run_build (P := Try.prog) w t _ cs hb
    unfold execOp
    simp only [ho, Sem.run_bind, Sem.run_pure, hr, Result.andThen_ok]⟩

set_option maxRecDepth 100000 in
set_option maxHeartbeats 8000000 in
theorem danode_any (a : Option Addr) (n c : Nat) (l : List Int) (A E : Int) (w : World) (hl : HoldsB w a n c l) (h0 : 0 ≤ A) (h1 : A ≤ n) :
    Calls Try.prog 55 #[.agg #[.slice a n c, .int .i64 A, .int .i64 E]] w fun e w' => e = .returned (.tuple #[.agg #[.slice a n c, .int .i64 (rdN l A E).2.1, .int .i64 (rdN l A E).2.2], .agg (rdN l A E).1.cs.toArray]) ∧ Below w.heap.size w w' := by
  have HL := hid hl
  have EQ : Hid (rdN l A E = (⟨lsV (tkI l) A E 0, lsV (tkI l) A E 1, lsV (tkI l) A E 2, lsV (tkI l) A E 3, lsV (tkI l) A E 4⟩, lsS (tkI l) A E 5)) := by unfold Hid rdN; simp only [tkc_ls]
  have NU := hid (fun W (H : HoldsB W a n c l) => dnums5_any a n c l A E W H h0 h1)
  clear hl
  generalize hx0 : lsV (tkI l) A E 0 = x0 at *
  have X0 := hid hx0
  clear hx0
  generalize hx1 : lsV (tkI l) A E 1 = x1 at *
  have X1 := hid hx1
  clear hx1
  generalize hx2 : lsV (tkI l) A E 2 = x2 at *
  have X2 := hid hx2
  clear hx2
  generalize hx3 : lsV (tkI l) A E 3 = x3 at *
  have X3 := hid hx3
  clear hx3
  generalize hx4 : lsV (tkI l) A E 4 = x4 at *
  have X4 := hid hx4
  clear hx4
  generalize hls : lsS (tkI l) A E 5 = SS at *
  obtain ⟨A1, E1⟩ := SS
  clear hls
  simp only at NU EQ
  go_enter Try.func55, Try.ntmps55
  go_upto_region 1 with fail
  have B0 := hid ((((Below.refl w.heap.size w).alloc (Nat.le_refl _) (.cells #[.slice a n c, .int .i64 A, .int .i64 E] 102)).alloc (by simp) (.cells #[.slice none 0 0, .int .i64 0, .int .i64 0] 102)).alloc (by simp; omega) (.cells #[.int .i64 0, .int .i64 0, .int .i64 0, .int .i64 0, .int .i64 0] 27))
  have X0 := hid (((Blk.alloc w #[.slice a n c, .int .i64 A, .int .i64 E] (102)).below ((Below.refl _ _).alloc (Nat.le_refl _) (.cells #[.slice none 0 0, .int .i64 0, .int .i64 0] 102))).below ((Below.refl _ _).alloc (Nat.le_refl _) (.cells #[.int .i64 0, .int .i64 0, .int .i64 0, .int .i64 0, .int .i64 0] 27)))
  have Y0 := hid ((Blk.alloc (w.alloc (.cells #[.slice a n c, .int .i64 A, .int .i64 E] 102)) #[.slice none 0 0, .int .i64 0, .int .i64 0] (102)).below ((Below.refl _ _).alloc (Nat.le_refl _) (.cells #[.int .i64 0, .int .i64 0, .int .i64 0, .int .i64 0, .int .i64 0] 27)))
  have Z0 := hid (Blk.alloc ((w.alloc (.cells #[.slice a n c, .int .i64 A, .int .i64 E] 102)).alloc (.cells #[.slice none 0 0, .int .i64 0, .int .i64 0] 102)) #[.int .i64 0, .int .i64 0, .int .i64 0, .int .i64 0, .int .i64 0] (27))
  have s0 : Hid (w.heap.size + 3 ≤ (((w.alloc (.cells #[.slice a n c, .int .i64 A, .int .i64 E] 102)).alloc (.cells #[.slice none 0 0, .int .i64 0, .int .i64 0] 102)).alloc (.cells #[.int .i64 0, .int .i64 0, .int .i64 0, .int .i64 0, .int .i64 0] 27)).heap.size) := by unfold Hid; simp
  rw [World.size_alloc] at Y0
  rw [World.size_alloc, World.size_alloc] at Z0
  generalize ((w.alloc (.cells #[.slice a n c, .int .i64 A, .int .i64 E] 102)).alloc (.cells #[.slice none 0 0, .int .i64 0, .int .i64 0] 102)).alloc (.cells #[.int .i64 0, .int .i64 0, .int .i64 0, .int .i64 0, .int .i64 0] 27) = W0 at *
  have LD := X0.out.loadAt Try.underlying102 rfl sizeRead
  have C0 := hid (NU.out W0 (HL.out.below B0.out))
  go_wp2_with (refine wpList_load_at 102 rfl (.tmp 1) rfl _ _ rfl _ LD ?_)
  with_reducible refine C0.out.mono ?_
  rintro e w1 ⟨g, rfl, hg, hb, b1⟩
  have hg3 : w.heap.size + 3 ≤ g := by have := s0.out; omega
  have X1 := hid (X0.out.below b1)
  have BX := X1.out
  unfold Blk at BX
  have XR := hid (X1.out.row #[.slice a n c, .int .i64 A1, .int .i64 E1])
  have YR := hid ((Y0.out.below b1).other (ds := #[.slice a n c, .int .i64 A1, .int .i64 E1]) (show w.heap.size + 1 ≠ w.heap.size by omega))
  have ZR := hid ((Z0.out.below b1).other (ds := #[.slice a n c, .int .i64 A1, .int .i64 E1]) (show w.heap.size + 1 + 1 ≠ w.heap.size by omega))
  have GR := hid (hb.other (ds := #[.slice a n c, .int .i64 A1, .int .i64 E1]) (show g ≠ w.heap.size by omega))
  have BR := hid (setRow_below (q := w.heap.size) (cs := #[.slice a n c, .int .i64 A1, .int .i64 E1]) (B0.out.trans (b1.mono B0.out.size)) (Nat.le_refl _))
  clear C0 LD X0 Y0 Z0 B0 b1 s0 NU X1 hb hg
  go_upto_region 2 with (refine wpList_store_row rfl 102 (.tmp 1) (.tmp 8) rfl w.heap.size #[.slice a n c, .int .i64 A1, .int .i64 E1] rfl rfl 102 _ BX sizeRead rfl (by simp [Value.oneCell']) ?_)
  clear BX
  generalize w1.setRow w.heap.size #[.slice a n c, .int .i64 A1, .int .i64 E1] = W2 at *
  have dr : Blk W2.drew w.heap.size 102 #[.slice a n c, .int .i64 A1, .int .i64 E1] := XR.out
  have dy : Blk W2.drew (w.heap.size + 1) 102 #[.slice none 0 0, .int .i64 0, .int .i64 0] := YR.out
  have dz : Blk W2.drew (w.heap.size + 2) 27 #[.int .i64 0, .int .i64 0, .int .i64 0, .int .i64 0, .int .i64 0] := ZR.out
  have dg : Blk W2.drew g 2 #[.int .i64 x0, .int .i64 x1, .int .i64 x2, .int .i64 x3, .int .i64 x4] := GR.out
  have db : Below w.heap.size w W2.drew := BR.out.drew
  clear XR YR ZR GR BR
  refine wp_region_held_drew (S := fun W => Blk W w.heap.size 102 #[.slice a n c, .int .i64 A1, .int .i64 E1] ∧ Blk W g 2 #[.int .i64 x0, .int .i64 x1, .int .i64 x2, .int .i64 x3, .int .i64 x4]) (by kernel_rfl) ⟨dr, dg⟩ (fun hHeld => ?_)
  generalize W2.drew = WD at *
  refine wpAnyH_take (i := 0) (v := .agg #[.slice a n c, .int .i64 A1, .int .i64 E1]) rfl (by kernel_rfl) (by kernel_rfl) (by kernel_rfl) (fun _ _ _ h => h) (yieldsIf_load_mid (by rfl) 102 (.tmp 1) rfl w.heap.size 0 rfl (#[.slice a n c, .int .i64 A1, .int .i64 E1] : Array Value).toList _ (fun W hW => hW.1.range) Try.underlying102 rfl sizeRead) (by assumption) ?_
  (try simp only [Act.put, List.getElem_toArray, List.getElem_cons_succ, List.getElem_cons_zero, List.setIfInBounds_toArray, List.set_cons_zero, List.set_cons_succ])
  refine wpAnyH_take (i := 1) (v := .slice (some ⟨g, 0, none⟩) 5 5) rfl (by kernel_rfl) (by kernel_rfl) (by kernel_rfl) (fun _ _ _ h => h) (Or.inl ⟨by rfl, ?_⟩) (by assumption) ?_
  · (intro w hSw; (try dsimp only at hSw); obtain ⟨hr, hg⟩ := hSw;  go_simp)
  (try simp only [Act.put, List.getElem_toArray, List.getElem_cons_succ, List.getElem_cons_zero, List.setIfInBounds_toArray, List.set_cons_zero, List.set_cons_succ])
  refine wpAnyH_take (i := 2) (v := .pointer (some ⟨g, 0, none⟩)) rfl (by kernel_rfl) (by kernel_rfl) (by kernel_rfl) (fun _ _ _ h => h) (Or.inl ⟨by rfl, ?_⟩) (by assumption) ?_
  · (intro w hSw; (try dsimp only at hSw); obtain ⟨hr, hg⟩ := hSw;  go_simp)
  (try simp only [Act.put, List.getElem_toArray, List.getElem_cons_succ, List.getElem_cons_zero, List.setIfInBounds_toArray, List.set_cons_zero, List.set_cons_succ])
  refine wpAnyH_take (i := 3) (v := .int .i64 x0) rfl (by kernel_rfl) (by kernel_rfl) (by kernel_rfl) (fun _ _ _ h => h) (Or.inl ⟨by rfl, ?_⟩) (by assumption) ?_
  · (intro w hSw; (try dsimp only at hSw); obtain ⟨hr, hg⟩ := hSw; have hc := hg.cellAt 0 _ rfl; go_simp)
  (try simp only [Act.put, List.getElem_toArray, List.getElem_cons_succ, List.getElem_cons_zero, List.setIfInBounds_toArray, List.set_cons_zero, List.set_cons_succ])
  refine wpAnyH_take (i := 4) (v := .slice (some ⟨g, 0, none⟩) 5 5) rfl (by kernel_rfl) (by kernel_rfl) (by kernel_rfl) (fun _ _ _ h => h) (Or.inl ⟨by rfl, ?_⟩) (by assumption) ?_
  · (intro w hSw; (try dsimp only at hSw); obtain ⟨hr, hg⟩ := hSw;  go_simp)
  (try simp only [Act.put, List.getElem_toArray, List.getElem_cons_succ, List.getElem_cons_zero, List.setIfInBounds_toArray, List.set_cons_zero, List.set_cons_succ])
  refine wpAnyH_take (i := 5) (v := .pointer (some ⟨g, 1, none⟩)) rfl (by kernel_rfl) (by kernel_rfl) (by kernel_rfl) (fun _ _ _ h => h) (Or.inl ⟨by rfl, ?_⟩) (by assumption) ?_
  · (intro w hSw; (try dsimp only at hSw); obtain ⟨hr, hg⟩ := hSw;  go_simp)
  (try simp only [Act.put, List.getElem_toArray, List.getElem_cons_succ, List.getElem_cons_zero, List.setIfInBounds_toArray, List.set_cons_zero, List.set_cons_succ])
  refine wpAnyH_take (i := 6) (v := .int .i64 x1) rfl (by kernel_rfl) (by kernel_rfl) (by kernel_rfl) (fun _ _ _ h => h) (Or.inl ⟨by rfl, ?_⟩) (by assumption) ?_
  · (intro w hSw; (try dsimp only at hSw); obtain ⟨hr, hg⟩ := hSw; have hc := hg.cellAt 1 _ rfl; go_simp)
  (try simp only [Act.put, List.getElem_toArray, List.getElem_cons_succ, List.getElem_cons_zero, List.setIfInBounds_toArray, List.set_cons_zero, List.set_cons_succ])
  refine wpAnyH_take (i := 7) (v := .slice (some ⟨g, 0, none⟩) 5 5) rfl (by kernel_rfl) (by kernel_rfl) (by kernel_rfl) (fun _ _ _ h => h) (Or.inl ⟨by rfl, ?_⟩) (by assumption) ?_
  · (intro w hSw; (try dsimp only at hSw); obtain ⟨hr, hg⟩ := hSw;  go_simp)
  (try simp only [Act.put, List.getElem_toArray, List.getElem_cons_succ, List.getElem_cons_zero, List.setIfInBounds_toArray, List.set_cons_zero, List.set_cons_succ])
  refine wpAnyH_take (i := 8) (v := .pointer (some ⟨g, 2, none⟩)) rfl (by kernel_rfl) (by kernel_rfl) (by kernel_rfl) (fun _ _ _ h => h) (Or.inl ⟨by rfl, ?_⟩) (by assumption) ?_
  · (intro w hSw; (try dsimp only at hSw); obtain ⟨hr, hg⟩ := hSw;  go_simp)
  (try simp only [Act.put, List.getElem_toArray, List.getElem_cons_succ, List.getElem_cons_zero, List.setIfInBounds_toArray, List.set_cons_zero, List.set_cons_succ])
  refine wpAnyH_take (i := 9) (v := .int .i64 x2) rfl (by kernel_rfl) (by kernel_rfl) (by kernel_rfl) (fun _ _ _ h => h) (Or.inl ⟨by rfl, ?_⟩) (by assumption) ?_
  · (intro w hSw; (try dsimp only at hSw); obtain ⟨hr, hg⟩ := hSw; have hc := hg.cellAt 2 _ rfl; go_simp)
  (try simp only [Act.put, List.getElem_toArray, List.getElem_cons_succ, List.getElem_cons_zero, List.setIfInBounds_toArray, List.set_cons_zero, List.set_cons_succ])
  refine wpAnyH_take (i := 10) (v := .slice (some ⟨g, 0, none⟩) 5 5) rfl (by kernel_rfl) (by kernel_rfl) (by kernel_rfl) (fun _ _ _ h => h) (Or.inl ⟨by rfl, ?_⟩) (by assumption) ?_
  · (intro w hSw; (try dsimp only at hSw); obtain ⟨hr, hg⟩ := hSw;  go_simp)
  (try simp only [Act.put, List.getElem_toArray, List.getElem_cons_succ, List.getElem_cons_zero, List.setIfInBounds_toArray, List.set_cons_zero, List.set_cons_succ])
  refine wpAnyH_take (i := 11) (v := .pointer (some ⟨g, 3, none⟩)) rfl (by kernel_rfl) (by kernel_rfl) (by kernel_rfl) (fun _ _ _ h => h) (Or.inl ⟨by rfl, ?_⟩) (by assumption) ?_
  · (intro w hSw; (try dsimp only at hSw); obtain ⟨hr, hg⟩ := hSw;  go_simp)
  (try simp only [Act.put, List.getElem_toArray, List.getElem_cons_succ, List.getElem_cons_zero, List.setIfInBounds_toArray, List.set_cons_zero, List.set_cons_succ])
  refine wpAnyH_take (i := 12) (v := .int .i64 x3) rfl (by kernel_rfl) (by kernel_rfl) (by kernel_rfl) (fun _ _ _ h => h) (Or.inl ⟨by rfl, ?_⟩) (by assumption) ?_
  · (intro w hSw; (try dsimp only at hSw); obtain ⟨hr, hg⟩ := hSw; have hc := hg.cellAt 3 _ rfl; go_simp)
  (try simp only [Act.put, List.getElem_toArray, List.getElem_cons_succ, List.getElem_cons_zero, List.setIfInBounds_toArray, List.set_cons_zero, List.set_cons_succ])
  refine wpAnyH_take (i := 13) (v := .slice (some ⟨g, 0, none⟩) 5 5) rfl (by kernel_rfl) (by kernel_rfl) (by kernel_rfl) (fun _ _ _ h => h) (Or.inl ⟨by rfl, ?_⟩) (by assumption) ?_
  · (intro w hSw; (try dsimp only at hSw); obtain ⟨hr, hg⟩ := hSw;  go_simp)
  (try simp only [Act.put, List.getElem_toArray, List.getElem_cons_succ, List.getElem_cons_zero, List.setIfInBounds_toArray, List.set_cons_zero, List.set_cons_succ])
  refine wpAnyH_take (i := 14) (v := .pointer (some ⟨g, 4, none⟩)) rfl (by kernel_rfl) (by kernel_rfl) (by kernel_rfl) (fun _ _ _ h => h) (Or.inl ⟨by rfl, ?_⟩) (by assumption) ?_
  · (intro w hSw; (try dsimp only at hSw); obtain ⟨hr, hg⟩ := hSw;  go_simp)
  (try simp only [Act.put, List.getElem_toArray, List.getElem_cons_succ, List.getElem_cons_zero, List.setIfInBounds_toArray, List.set_cons_zero, List.set_cons_succ])
  refine wpAnyH_take (i := 15) (v := .int .i64 x4) rfl (by kernel_rfl) (by kernel_rfl) (by kernel_rfl) (fun _ _ _ h => h) (Or.inl ⟨by rfl, ?_⟩) (by assumption) ?_
  · (intro w hSw; (try dsimp only at hSw); obtain ⟨hr, hg⟩ := hSw; have hc := hg.cellAt 4 _ rfl; go_simp)
  (try simp only [Act.put, List.getElem_toArray, List.getElem_cons_succ, List.getElem_cons_zero, List.setIfInBounds_toArray, List.set_cons_zero, List.set_cons_succ])
  refine wpAnyH_take (i := 16) (v := .agg #[.int .i64 x0, .int .i64 x1, .int .i64 x2, .int .i64 x3, .int .i64 x4]) rfl (by kernel_rfl) (by kernel_rfl) (by kernel_rfl) (fun _ _ _ h => h) (yieldsIf_build (by rfl) _ _ rfl #[.int .i64 x0, .int .i64 x1, .int .i64 x2, .int .i64 x3, .int .i64 x4] (by kernel_rfl)) (by assumption) ?_
  (try simp only [Act.put, List.getElem_toArray, List.getElem_cons_succ, List.getElem_cons_zero, List.setIfInBounds_toArray, List.set_cons_zero, List.set_cons_succ])
  refine wpAnyH_ready (rs := [17]) (by kernel_rfl) (by simp) ?_
  refine AllReadyH.cons rfl (fun K hK => ?_) AllReadyH.nil
  refine storeRow_step rfl 102 (.tmp 2) (.tmp 10) rfl (w.heap.size + 1) #[.slice a n c, .int .i64 A1, .int .i64 E1] rfl rfl 102 _ dy sizeRead rfl (by simp [Value.oneCell']) ?_
  refine hK.out _ _ ⟨dr.other (by omega), dg.other (by omega)⟩ (fun hHeld => ?_)
  clear hK K
  (try simp only [Act.put, List.getElem_toArray, List.getElem_cons_succ, List.getElem_cons_zero, List.setIfInBounds_toArray, List.set_cons_zero, List.set_cons_succ])
  refine wpAnyH_ready (rs := [18]) (by kernel_rfl) (by simp) ?_
  refine AllReadyH.cons rfl (fun K hK => ?_) AllReadyH.nil
  refine storeRow_step rfl 27 (.tmp 3) (.tmp 26) rfl (w.heap.size + 2) #[.int .i64 x0, .int .i64 x1, .int .i64 x2, .int .i64 x3, .int .i64 x4] rfl rfl 27 _ (dz.other (by omega)) sizeNod rfl (by simp [Value.oneCell']) ?_
  refine hK.out _ _ ⟨(dr.other (by omega)).other (by omega), (dg.other (by omega)).other (by omega)⟩ (fun hHeld => ?_)
  clear hK K
  (try simp only [Act.put, List.getElem_toArray, List.getElem_cons_succ, List.getElem_cons_zero, List.setIfInBounds_toArray, List.set_cons_zero, List.set_cons_succ])
  refine wpAnyH_done (by kernel_rfl) ?_ _
  clear hHeld
  go_wp2_with fail
  refine bodyPost_ret (results_cells2 rfl rfl rfl (((dy.row _).other (by omega)).loadVar Try.underlying102 rfl sizeRead) (((dz.other (by omega)).row #[.int .i64 x0, .int .i64 x1, .int .i64 x2, .int .i64 x3, .int .i64 x4]).loadVar Try.underlying27 rfl sizeNod)) rfl ?_
  rw [EQ.out]
  exact ⟨rfl, setRow_below (setRow_below db (by omega)) (by omega)⟩

set_option maxRecDepth 100000 in
set_option maxHeartbeats 8000000 in
theorem daqueue_any (a : Option Addr) (n c : Nat) (l : List Int) (A E : Int) (w : World) (hl : HoldsB w a n c l) (h0 : 0 ≤ A) (h1 : A ≤ n) :
    Calls Try.prog 54 #[.agg #[.slice a n c, .int .i64 A, .int .i64 E]] w fun e w' => e = .returned (.tuple #[.agg #[.slice a n c, .int .i64 (rdQ l A E).2.1, .int .i64 (rdQ l A E).2.2], .agg (rdQ l A E).1.cs.toArray]) ∧ Below w.heap.size w w' := by
  have HL := hid hl
  have EQ : Hid (rdQ l A E = (⟨lsV (tkI l) A E 0, lsV (tkI l) A E 1, lsV (tkI l) A E 2, lsV (tkI l) A E 3, lsV (tkI l) A E 4, lsV (tkI l) A E 5, lsV (tkI l) A E 6⟩, lsS (tkI l) A E 7)) := by unfold Hid rdQ; simp only [tkc_ls]
  have NU := hid (fun W (H : HoldsB W a n c l) => dnums7_any a n c l A E W H h0 h1)
  clear hl
  generalize hx0 : lsV (tkI l) A E 0 = x0 at *
  have X0 := hid hx0
  clear hx0
  generalize hx1 : lsV (tkI l) A E 1 = x1 at *
  have X1 := hid hx1
  clear hx1
  generalize hx2 : lsV (tkI l) A E 2 = x2 at *
  have X2 := hid hx2
  clear hx2
  generalize hx3 : lsV (tkI l) A E 3 = x3 at *
  have X3 := hid hx3
  clear hx3
  generalize hx4 : lsV (tkI l) A E 4 = x4 at *
  have X4 := hid hx4
  clear hx4
  generalize hx5 : lsV (tkI l) A E 5 = x5 at *
  have X5 := hid hx5
  clear hx5
  generalize hx6 : lsV (tkI l) A E 6 = x6 at *
  have X6 := hid hx6
  clear hx6
  generalize hls : lsS (tkI l) A E 7 = SS at *
  obtain ⟨A1, E1⟩ := SS
  clear hls
  simp only at NU EQ
  go_enter Try.func54, Try.ntmps54
  go_upto_region 1 with fail
  have B0 := hid ((((Below.refl w.heap.size w).alloc (Nat.le_refl _) (.cells #[.slice a n c, .int .i64 A, .int .i64 E] 102)).alloc (by simp) (.cells #[.slice none 0 0, .int .i64 0, .int .i64 0] 102)).alloc (by simp; omega) (.cells #[.int .i64 0, .int .i64 0, .int .i64 0, .int .i64 0, .int .i64 0, .int .i64 0, .int .i64 0] 25))
  have X0 := hid (((Blk.alloc w #[.slice a n c, .int .i64 A, .int .i64 E] (102)).below ((Below.refl _ _).alloc (Nat.le_refl _) (.cells #[.slice none 0 0, .int .i64 0, .int .i64 0] 102))).below ((Below.refl _ _).alloc (Nat.le_refl _) (.cells #[.int .i64 0, .int .i64 0, .int .i64 0, .int .i64 0, .int .i64 0, .int .i64 0, .int .i64 0] 25)))
  have Y0 := hid ((Blk.alloc (w.alloc (.cells #[.slice a n c, .int .i64 A, .int .i64 E] 102)) #[.slice none 0 0, .int .i64 0, .int .i64 0] (102)).below ((Below.refl _ _).alloc (Nat.le_refl _) (.cells #[.int .i64 0, .int .i64 0, .int .i64 0, .int .i64 0, .int .i64 0, .int .i64 0, .int .i64 0] 25)))
  have Z0 := hid (Blk.alloc ((w.alloc (.cells #[.slice a n c, .int .i64 A, .int .i64 E] 102)).alloc (.cells #[.slice none 0 0, .int .i64 0, .int .i64 0] 102)) #[.int .i64 0, .int .i64 0, .int .i64 0, .int .i64 0, .int .i64 0, .int .i64 0, .int .i64 0] (25))
  have s0 : Hid (w.heap.size + 3 ≤ (((w.alloc (.cells #[.slice a n c, .int .i64 A, .int .i64 E] 102)).alloc (.cells #[.slice none 0 0, .int .i64 0, .int .i64 0] 102)).alloc (.cells #[.int .i64 0, .int .i64 0, .int .i64 0, .int .i64 0, .int .i64 0, .int .i64 0, .int .i64 0] 25)).heap.size) := by unfold Hid; simp
  rw [World.size_alloc] at Y0
  rw [World.size_alloc, World.size_alloc] at Z0
  generalize ((w.alloc (.cells #[.slice a n c, .int .i64 A, .int .i64 E] 102)).alloc (.cells #[.slice none 0 0, .int .i64 0, .int .i64 0] 102)).alloc (.cells #[.int .i64 0, .int .i64 0, .int .i64 0, .int .i64 0, .int .i64 0, .int .i64 0, .int .i64 0] 25) = W0 at *
  have LD := X0.out.loadAt Try.underlying102 rfl sizeRead
  have C0 := hid (NU.out W0 (HL.out.below B0.out))
  go_wp2_with (refine wpList_load_at 102 rfl (.tmp 1) rfl _ _ rfl _ LD ?_)
  with_reducible refine C0.out.mono ?_
  rintro e w1 ⟨g, rfl, hg, hb, b1⟩
  have hg3 : w.heap.size + 3 ≤ g := by have := s0.out; omega
  have X1 := hid (X0.out.below b1)
  have BX := X1.out
  unfold Blk at BX
  have XR := hid (X1.out.row #[.slice a n c, .int .i64 A1, .int .i64 E1])
  have YR := hid ((Y0.out.below b1).other (ds := #[.slice a n c, .int .i64 A1, .int .i64 E1]) (show w.heap.size + 1 ≠ w.heap.size by omega))
  have ZR := hid ((Z0.out.below b1).other (ds := #[.slice a n c, .int .i64 A1, .int .i64 E1]) (show w.heap.size + 1 + 1 ≠ w.heap.size by omega))
  have GR := hid (hb.other (ds := #[.slice a n c, .int .i64 A1, .int .i64 E1]) (show g ≠ w.heap.size by omega))
  have BR := hid (setRow_below (q := w.heap.size) (cs := #[.slice a n c, .int .i64 A1, .int .i64 E1]) (B0.out.trans (b1.mono B0.out.size)) (Nat.le_refl _))
  clear C0 LD X0 Y0 Z0 B0 b1 s0 NU X1 hb hg
  go_upto_region 2 with (refine wpList_store_row rfl 102 (.tmp 1) (.tmp 8) rfl w.heap.size #[.slice a n c, .int .i64 A1, .int .i64 E1] rfl rfl 102 _ BX sizeRead rfl (by simp [Value.oneCell']) ?_)
  clear BX
  generalize w1.setRow w.heap.size #[.slice a n c, .int .i64 A1, .int .i64 E1] = W2 at *
  have dr : Blk W2.drew w.heap.size 102 #[.slice a n c, .int .i64 A1, .int .i64 E1] := XR.out
  have dy : Blk W2.drew (w.heap.size + 1) 102 #[.slice none 0 0, .int .i64 0, .int .i64 0] := YR.out
  have dz : Blk W2.drew (w.heap.size + 2) 25 #[.int .i64 0, .int .i64 0, .int .i64 0, .int .i64 0, .int .i64 0, .int .i64 0, .int .i64 0] := ZR.out
  have dg : Blk W2.drew g 2 #[.int .i64 x0, .int .i64 x1, .int .i64 x2, .int .i64 x3, .int .i64 x4, .int .i64 x5, .int .i64 x6] := GR.out
  have db : Below w.heap.size w W2.drew := BR.out.drew
  clear XR YR ZR GR BR
  refine wp_region_held_drew (S := fun W => Blk W w.heap.size 102 #[.slice a n c, .int .i64 A1, .int .i64 E1] ∧ Blk W g 2 #[.int .i64 x0, .int .i64 x1, .int .i64 x2, .int .i64 x3, .int .i64 x4, .int .i64 x5, .int .i64 x6]) (by kernel_rfl) ⟨dr, dg⟩ (fun hHeld => ?_)
  generalize W2.drew = WD at *
  refine wpAnyH_take (i := 0) (v := .agg #[.slice a n c, .int .i64 A1, .int .i64 E1]) rfl (by kernel_rfl) (by kernel_rfl) (by kernel_rfl) (fun _ _ _ h => h) (yieldsIf_load_mid (by rfl) 102 (.tmp 1) rfl w.heap.size 0 rfl (#[.slice a n c, .int .i64 A1, .int .i64 E1] : Array Value).toList _ (fun W hW => hW.1.range) Try.underlying102 rfl sizeRead) (by assumption) ?_
  (try simp only [Act.put, List.getElem_toArray, List.getElem_cons_succ, List.getElem_cons_zero, List.setIfInBounds_toArray, List.set_cons_zero, List.set_cons_succ])
  refine wpAnyH_take (i := 1) (v := .slice (some ⟨g, 0, none⟩) 7 7) rfl (by kernel_rfl) (by kernel_rfl) (by kernel_rfl) (fun _ _ _ h => h) (Or.inl ⟨by rfl, ?_⟩) (by assumption) ?_
  · (intro w hSw; (try dsimp only at hSw); obtain ⟨hr, hg⟩ := hSw;  go_simp)
  (try simp only [Act.put, List.getElem_toArray, List.getElem_cons_succ, List.getElem_cons_zero, List.setIfInBounds_toArray, List.set_cons_zero, List.set_cons_succ])
  refine wpAnyH_take (i := 2) (v := .pointer (some ⟨g, 0, none⟩)) rfl (by kernel_rfl) (by kernel_rfl) (by kernel_rfl) (fun _ _ _ h => h) (Or.inl ⟨by rfl, ?_⟩) (by assumption) ?_
  · (intro w hSw; (try dsimp only at hSw); obtain ⟨hr, hg⟩ := hSw;  go_simp)
  (try simp only [Act.put, List.getElem_toArray, List.getElem_cons_succ, List.getElem_cons_zero, List.setIfInBounds_toArray, List.set_cons_zero, List.set_cons_succ])
  refine wpAnyH_take (i := 3) (v := .int .i64 x0) rfl (by kernel_rfl) (by kernel_rfl) (by kernel_rfl) (fun _ _ _ h => h) (Or.inl ⟨by rfl, ?_⟩) (by assumption) ?_
  · (intro w hSw; (try dsimp only at hSw); obtain ⟨hr, hg⟩ := hSw; have hc := hg.cellAt 0 _ rfl; go_simp)
  (try simp only [Act.put, List.getElem_toArray, List.getElem_cons_succ, List.getElem_cons_zero, List.setIfInBounds_toArray, List.set_cons_zero, List.set_cons_succ])
  refine wpAnyH_take (i := 4) (v := .slice (some ⟨g, 0, none⟩) 7 7) rfl (by kernel_rfl) (by kernel_rfl) (by kernel_rfl) (fun _ _ _ h => h) (Or.inl ⟨by rfl, ?_⟩) (by assumption) ?_
  · (intro w hSw; (try dsimp only at hSw); obtain ⟨hr, hg⟩ := hSw;  go_simp)
  (try simp only [Act.put, List.getElem_toArray, List.getElem_cons_succ, List.getElem_cons_zero, List.setIfInBounds_toArray, List.set_cons_zero, List.set_cons_succ])
  refine wpAnyH_take (i := 5) (v := .pointer (some ⟨g, 1, none⟩)) rfl (by kernel_rfl) (by kernel_rfl) (by kernel_rfl) (fun _ _ _ h => h) (Or.inl ⟨by rfl, ?_⟩) (by assumption) ?_
  · (intro w hSw; (try dsimp only at hSw); obtain ⟨hr, hg⟩ := hSw;  go_simp)
  (try simp only [Act.put, List.getElem_toArray, List.getElem_cons_succ, List.getElem_cons_zero, List.setIfInBounds_toArray, List.set_cons_zero, List.set_cons_succ])
  refine wpAnyH_take (i := 6) (v := .int .i64 x1) rfl (by kernel_rfl) (by kernel_rfl) (by kernel_rfl) (fun _ _ _ h => h) (Or.inl ⟨by rfl, ?_⟩) (by assumption) ?_
  · (intro w hSw; (try dsimp only at hSw); obtain ⟨hr, hg⟩ := hSw; have hc := hg.cellAt 1 _ rfl; go_simp)
  (try simp only [Act.put, List.getElem_toArray, List.getElem_cons_succ, List.getElem_cons_zero, List.setIfInBounds_toArray, List.set_cons_zero, List.set_cons_succ])
  refine wpAnyH_take (i := 7) (v := .slice (some ⟨g, 0, none⟩) 7 7) rfl (by kernel_rfl) (by kernel_rfl) (by kernel_rfl) (fun _ _ _ h => h) (Or.inl ⟨by rfl, ?_⟩) (by assumption) ?_
  · (intro w hSw; (try dsimp only at hSw); obtain ⟨hr, hg⟩ := hSw;  go_simp)
  (try simp only [Act.put, List.getElem_toArray, List.getElem_cons_succ, List.getElem_cons_zero, List.setIfInBounds_toArray, List.set_cons_zero, List.set_cons_succ])
  refine wpAnyH_take (i := 8) (v := .pointer (some ⟨g, 2, none⟩)) rfl (by kernel_rfl) (by kernel_rfl) (by kernel_rfl) (fun _ _ _ h => h) (Or.inl ⟨by rfl, ?_⟩) (by assumption) ?_
  · (intro w hSw; (try dsimp only at hSw); obtain ⟨hr, hg⟩ := hSw;  go_simp)
  (try simp only [Act.put, List.getElem_toArray, List.getElem_cons_succ, List.getElem_cons_zero, List.setIfInBounds_toArray, List.set_cons_zero, List.set_cons_succ])
  refine wpAnyH_take (i := 9) (v := .int .i64 x2) rfl (by kernel_rfl) (by kernel_rfl) (by kernel_rfl) (fun _ _ _ h => h) (Or.inl ⟨by rfl, ?_⟩) (by assumption) ?_
  · (intro w hSw; (try dsimp only at hSw); obtain ⟨hr, hg⟩ := hSw; have hc := hg.cellAt 2 _ rfl; go_simp)
  (try simp only [Act.put, List.getElem_toArray, List.getElem_cons_succ, List.getElem_cons_zero, List.setIfInBounds_toArray, List.set_cons_zero, List.set_cons_succ])
  refine wpAnyH_take (i := 10) (v := .slice (some ⟨g, 0, none⟩) 7 7) rfl (by kernel_rfl) (by kernel_rfl) (by kernel_rfl) (fun _ _ _ h => h) (Or.inl ⟨by rfl, ?_⟩) (by assumption) ?_
  · (intro w hSw; (try dsimp only at hSw); obtain ⟨hr, hg⟩ := hSw;  go_simp)
  (try simp only [Act.put, List.getElem_toArray, List.getElem_cons_succ, List.getElem_cons_zero, List.setIfInBounds_toArray, List.set_cons_zero, List.set_cons_succ])
  refine wpAnyH_take (i := 11) (v := .pointer (some ⟨g, 3, none⟩)) rfl (by kernel_rfl) (by kernel_rfl) (by kernel_rfl) (fun _ _ _ h => h) (Or.inl ⟨by rfl, ?_⟩) (by assumption) ?_
  · (intro w hSw; (try dsimp only at hSw); obtain ⟨hr, hg⟩ := hSw;  go_simp)
  (try simp only [Act.put, List.getElem_toArray, List.getElem_cons_succ, List.getElem_cons_zero, List.setIfInBounds_toArray, List.set_cons_zero, List.set_cons_succ])
  refine wpAnyH_take (i := 12) (v := .int .i64 x3) rfl (by kernel_rfl) (by kernel_rfl) (by kernel_rfl) (fun _ _ _ h => h) (Or.inl ⟨by rfl, ?_⟩) (by assumption) ?_
  · (intro w hSw; (try dsimp only at hSw); obtain ⟨hr, hg⟩ := hSw; have hc := hg.cellAt 3 _ rfl; go_simp)
  (try simp only [Act.put, List.getElem_toArray, List.getElem_cons_succ, List.getElem_cons_zero, List.setIfInBounds_toArray, List.set_cons_zero, List.set_cons_succ])
  refine wpAnyH_take (i := 13) (v := .slice (some ⟨g, 0, none⟩) 7 7) rfl (by kernel_rfl) (by kernel_rfl) (by kernel_rfl) (fun _ _ _ h => h) (Or.inl ⟨by rfl, ?_⟩) (by assumption) ?_
  · (intro w hSw; (try dsimp only at hSw); obtain ⟨hr, hg⟩ := hSw;  go_simp)
  (try simp only [Act.put, List.getElem_toArray, List.getElem_cons_succ, List.getElem_cons_zero, List.setIfInBounds_toArray, List.set_cons_zero, List.set_cons_succ])
  refine wpAnyH_take (i := 14) (v := .pointer (some ⟨g, 4, none⟩)) rfl (by kernel_rfl) (by kernel_rfl) (by kernel_rfl) (fun _ _ _ h => h) (Or.inl ⟨by rfl, ?_⟩) (by assumption) ?_
  · (intro w hSw; (try dsimp only at hSw); obtain ⟨hr, hg⟩ := hSw;  go_simp)
  (try simp only [Act.put, List.getElem_toArray, List.getElem_cons_succ, List.getElem_cons_zero, List.setIfInBounds_toArray, List.set_cons_zero, List.set_cons_succ])
  refine wpAnyH_take (i := 15) (v := .int .i64 x4) rfl (by kernel_rfl) (by kernel_rfl) (by kernel_rfl) (fun _ _ _ h => h) (Or.inl ⟨by rfl, ?_⟩) (by assumption) ?_
  · (intro w hSw; (try dsimp only at hSw); obtain ⟨hr, hg⟩ := hSw; have hc := hg.cellAt 4 _ rfl; go_simp)
  (try simp only [Act.put, List.getElem_toArray, List.getElem_cons_succ, List.getElem_cons_zero, List.setIfInBounds_toArray, List.set_cons_zero, List.set_cons_succ])
  refine wpAnyH_take (i := 16) (v := .agg #[.int .i64 x3, .int .i64 x4]) rfl (by kernel_rfl) (by kernel_rfl) (by kernel_rfl) (fun _ _ _ h => h) (yieldsIf_build (by rfl) _ _ rfl #[.int .i64 x3, .int .i64 x4] (by kernel_rfl)) (by assumption) ?_
  (try simp only [Act.put, List.getElem_toArray, List.getElem_cons_succ, List.getElem_cons_zero, List.setIfInBounds_toArray, List.set_cons_zero, List.set_cons_succ])
  refine wpAnyH_take (i := 17) (v := .slice (some ⟨g, 0, none⟩) 7 7) rfl (by kernel_rfl) (by kernel_rfl) (by kernel_rfl) (fun _ _ _ h => h) (Or.inl ⟨by rfl, ?_⟩) (by assumption) ?_
  · (intro w hSw; (try dsimp only at hSw); obtain ⟨hr, hg⟩ := hSw;  go_simp)
  (try simp only [Act.put, List.getElem_toArray, List.getElem_cons_succ, List.getElem_cons_zero, List.setIfInBounds_toArray, List.set_cons_zero, List.set_cons_succ])
  refine wpAnyH_take (i := 18) (v := .pointer (some ⟨g, 5, none⟩)) rfl (by kernel_rfl) (by kernel_rfl) (by kernel_rfl) (fun _ _ _ h => h) (Or.inl ⟨by rfl, ?_⟩) (by assumption) ?_
  · (intro w hSw; (try dsimp only at hSw); obtain ⟨hr, hg⟩ := hSw;  go_simp)
  (try simp only [Act.put, List.getElem_toArray, List.getElem_cons_succ, List.getElem_cons_zero, List.setIfInBounds_toArray, List.set_cons_zero, List.set_cons_succ])
  refine wpAnyH_take (i := 19) (v := .int .i64 x5) rfl (by kernel_rfl) (by kernel_rfl) (by kernel_rfl) (fun _ _ _ h => h) (Or.inl ⟨by rfl, ?_⟩) (by assumption) ?_
  · (intro w hSw; (try dsimp only at hSw); obtain ⟨hr, hg⟩ := hSw; have hc := hg.cellAt 5 _ rfl; go_simp)
  (try simp only [Act.put, List.getElem_toArray, List.getElem_cons_succ, List.getElem_cons_zero, List.setIfInBounds_toArray, List.set_cons_zero, List.set_cons_succ])
  refine wpAnyH_take (i := 20) (v := .slice (some ⟨g, 0, none⟩) 7 7) rfl (by kernel_rfl) (by kernel_rfl) (by kernel_rfl) (fun _ _ _ h => h) (Or.inl ⟨by rfl, ?_⟩) (by assumption) ?_
  · (intro w hSw; (try dsimp only at hSw); obtain ⟨hr, hg⟩ := hSw;  go_simp)
  (try simp only [Act.put, List.getElem_toArray, List.getElem_cons_succ, List.getElem_cons_zero, List.setIfInBounds_toArray, List.set_cons_zero, List.set_cons_succ])
  refine wpAnyH_take (i := 21) (v := .pointer (some ⟨g, 6, none⟩)) rfl (by kernel_rfl) (by kernel_rfl) (by kernel_rfl) (fun _ _ _ h => h) (Or.inl ⟨by rfl, ?_⟩) (by assumption) ?_
  · (intro w hSw; (try dsimp only at hSw); obtain ⟨hr, hg⟩ := hSw;  go_simp)
  (try simp only [Act.put, List.getElem_toArray, List.getElem_cons_succ, List.getElem_cons_zero, List.setIfInBounds_toArray, List.set_cons_zero, List.set_cons_succ])
  refine wpAnyH_take (i := 22) (v := .int .i64 x6) rfl (by kernel_rfl) (by kernel_rfl) (by kernel_rfl) (fun _ _ _ h => h) (Or.inl ⟨by rfl, ?_⟩) (by assumption) ?_
  · (intro w hSw; (try dsimp only at hSw); obtain ⟨hr, hg⟩ := hSw; have hc := hg.cellAt 6 _ rfl; go_simp)
  (try simp only [Act.put, List.getElem_toArray, List.getElem_cons_succ, List.getElem_cons_zero, List.setIfInBounds_toArray, List.set_cons_zero, List.set_cons_succ])
  refine wpAnyH_take (i := 23) (v := .agg #[.int .i64 x5, .int .i64 x6]) rfl (by kernel_rfl) (by kernel_rfl) (by kernel_rfl) (fun _ _ _ h => h) (yieldsIf_build (by rfl) _ _ rfl #[.int .i64 x5, .int .i64 x6] (by kernel_rfl)) (by assumption) ?_
  (try simp only [Act.put, List.getElem_toArray, List.getElem_cons_succ, List.getElem_cons_zero, List.setIfInBounds_toArray, List.set_cons_zero, List.set_cons_succ])
  refine wpAnyH_take (i := 24) (v := .agg #[.int .i64 x0, .int .i64 x1, .int .i64 x2, .int .i64 x3, .int .i64 x4, .int .i64 x5, .int .i64 x6]) rfl (by kernel_rfl) (by kernel_rfl) (by kernel_rfl) (fun _ _ _ h => h) (yieldsIf_build (by rfl) _ _ rfl #[.int .i64 x0, .int .i64 x1, .int .i64 x2, .int .i64 x3, .int .i64 x4, .int .i64 x5, .int .i64 x6] (by kernel_rfl)) (by assumption) ?_
  (try simp only [Act.put, List.getElem_toArray, List.getElem_cons_succ, List.getElem_cons_zero, List.setIfInBounds_toArray, List.set_cons_zero, List.set_cons_succ])
  refine wpAnyH_ready (rs := [25]) (by kernel_rfl) (by simp) ?_
  refine AllReadyH.cons rfl (fun K hK => ?_) AllReadyH.nil
  refine storeRow_step rfl 102 (.tmp 2) (.tmp 10) rfl (w.heap.size + 1) #[.slice a n c, .int .i64 A1, .int .i64 E1] rfl rfl 102 _ dy sizeRead rfl (by simp [Value.oneCell']) ?_
  refine hK.out _ _ ⟨dr.other (by omega), dg.other (by omega)⟩ (fun hHeld => ?_)
  clear hK K
  (try simp only [Act.put, List.getElem_toArray, List.getElem_cons_succ, List.getElem_cons_zero, List.setIfInBounds_toArray, List.set_cons_zero, List.set_cons_succ])
  refine wpAnyH_ready (rs := [26]) (by kernel_rfl) (by simp) ?_
  refine AllReadyH.cons rfl (fun K hK => ?_) AllReadyH.nil
  refine storeRow_step rfl 25 (.tmp 3) (.tmp 34) rfl (w.heap.size + 2) #[.int .i64 x0, .int .i64 x1, .int .i64 x2, .int .i64 x3, .int .i64 x4, .int .i64 x5, .int .i64 x6] rfl rfl 25 _ (dz.other (by omega)) sizeQue rfl (by simp [Value.oneCell']) ?_
  refine hK.out _ _ ⟨(dr.other (by omega)).other (by omega), (dg.other (by omega)).other (by omega)⟩ (fun hHeld => ?_)
  clear hK K
  (try simp only [Act.put, List.getElem_toArray, List.getElem_cons_succ, List.getElem_cons_zero, List.setIfInBounds_toArray, List.set_cons_zero, List.set_cons_succ])
  refine wpAnyH_done (by kernel_rfl) ?_ _
  clear hHeld
  go_wp2_with fail
  refine bodyPost_ret (results_cells2 rfl rfl rfl (((dy.row _).other (by omega)).loadVar Try.underlying102 rfl sizeRead) (((dz.other (by omega)).row #[.int .i64 x0, .int .i64 x1, .int .i64 x2, .int .i64 x3, .int .i64 x4, .int .i64 x5, .int .i64 x6]).loadVar Try.underlying25 rfl sizeQue)) rfl ?_
  rw [EQ.out]
  exact ⟨rfl, setRow_below (setRow_below db (by omega)) (by omega)⟩
end Go.Proofs.Ythkbddnkcljjpaa

namespace Go.Proofs.Ythkbddnkcljjpaa
open Go.RowKit Go.Deep Go.Maps
set_option linter.unusedVariables false
set_option linter.unusedSimpArgs false
theorem tkI_err {l : List Int} {A E : Int} (h : (tkI l A E).2.2 = 0) : E = 0 := by
  unfold tkI at h
  by_cases e : E = 0
  · exact e
  · rw [if_neg e] at h; exact absurd h e
theorem upT_err {l : List Int} {A E m f : Int} (h : (upT l A E m f).2.2 = 0) : E = 0 := by
  unfold upT at h
  by_cases e : E = 0
  · exact e
  · rw [if_neg e] at h; exact absurd h e
theorem lsS_err {l : List Int} {A E : Int} : ∀ k, (lsS (tkI l) A E k).2 = 0 → E = 0
  | 0, h => h
  | k + 1, h => lsS_err k (tkI_err h)
set_option maxRecDepth 100000 in
set_option maxHeartbeats 8000000 in
theorem datask_any (a : Option Addr) (n c : Nat) (l : List Int) (A E : Int) (w : World) (hl : HoldsB w a n c l) (h0 : 0 ≤ A) (h1 : A ≤ n) :
    Calls Try.prog 56 #[.agg #[.slice a n c, .int .i64 A, .int .i64 E]] w fun e w' => ∃ y : T7, e = .returned (.tuple #[.agg #[.slice a n c, .int .i64 (rdT l A E).2.1, .int .i64 (rdT l A E).2.2], .agg y.cs.toArray]) ∧ ((rdT l A E).2.2 = 0 → TaSame (rdT l A E).1 y ∧ OwnN w.heap.size w' (.slice y.sa y.sl y.sc) y.sl y.tk) ∧ Below w.heap.size w w' := by
  have HL := hid hl
  have hlen := hl.1
  have hnm := hl.2.1
  clear hl
  have EQ : Hid (rdT l A E = (⟨lsV (tkI l) A E 0, lsV (tkI l) A E 1, lsV (tkI l) A E 2, lsV (tkI l) A E 3, lsV (tkI l) A E 4, none, liC (tkI l) l (lsS (tkI l) A E 5).1 (lsS (tkI l) A E 5).2, 0, (tkI l (liF (tkI l) l (lsS (tkI l) A E 5).1 (lsS (tkI l) A E 5).2).1 (liF (tkI l) l (lsS (tkI l) A E 5).1 (lsS (tkI l) A E 5).2).2).1, liL (tkI l) l (lsS (tkI l) A E 5).1 (lsS (tkI l) A E 5).2⟩, (tkI l (liF (tkI l) l (lsS (tkI l) A E 5).1 (lsS (tkI l) A E 5).2).1 (liF (tkI l) l (lsS (tkI l) A E 5).1 (lsS (tkI l) A E 5).2).2).2)) := by unfold Hid rdT taE taB taC taL; simp only [tkc_ls]
  have a5 := lsS_at (pe := tkI l) (n := n) (E := E) (fun A E h0 h1 => by have := tkI_at l A E h0 (by omega); omega) h0 h1 5
  have aB := liF_at (pe := tkI l) (l := l) (E := (lsS (tkI l) A E 5).2) (fun A E h0 h1 => tkI_at l A E h0 h1) a5.1 (by omega)
  have N1 := hid (fun W (H : HoldsB W a n c l) => dnums5_any a n c l A E W H h0 h1)
  have N2 := hid (fun W (H : HoldsB W a n c l) => dlist_any a n c l (lsS (tkI l) A E 5).1 (lsS (tkI l) A E 5).2 W H a5.1 a5.2)
  have N3 := hid (fun W (H : HoldsB W a n c l) => dnum_any a n c l (liF (tkI l) l (lsS (tkI l) A E 5).1 (lsS (tkI l) A E 5).2).1 (liF (tkI l) l (lsS (tkI l) A E 5).1 (lsS (tkI l) A E 5).2).2 W H ⟨by omega, by omega⟩)
  have EE := hid (fun h => tkI_err (l := l) (A := (liF (tkI l) l (lsS (tkI l) A E 5).1 (lsS (tkI l) A E 5).2).1) (E := (liF (tkI l) l (lsS (tkI l) A E 5).1 (lsS (tkI l) A E 5).2).2) h)
  clear a5 aB
  generalize lsV (tkI l) A E 0 = x0 at *
  generalize lsV (tkI l) A E 1 = x1 at *
  generalize lsV (tkI l) A E 2 = x2 at *
  generalize lsV (tkI l) A E 3 = x3 at *
  generalize lsV (tkI l) A E 4 = x4 at *
  generalize liL (tkI l) l (lsS (tkI l) A E 5).1 (lsS (tkI l) A E 5).2 = LL at *
  generalize liC (tkI l) l (lsS (tkI l) A E 5).1 (lsS (tkI l) A E 5).2 = NC at *
  generalize hli : liF (tkI l) l (lsS (tkI l) A E 5).1 (lsS (tkI l) A E 5).2 = S2 at *
  clear hli
  generalize lsS (tkI l) A E 5 = S1 at *
  obtain ⟨P1, F1⟩ := S1
  obtain ⟨P2, F2⟩ := S2
  generalize hst : tkI l (P2, F2).1 (P2, F2).2 = S3 at *
  clear hst
  obtain ⟨st, P3, F3⟩ := S3
  simp only at EQ N1 N2 N3 EE
  go_enter Try.func56, Try.ntmps56
  go_upto_region 1 with fail
  have B := hid ((((Below.refl w.heap.size w).alloc (Nat.le_refl _) (.cells #[.slice a n c, .int .i64 A, .int .i64 E] 102)).alloc (by simp) (.cells #[.slice none 0 0, .int .i64 0, .int .i64 0] 102)).alloc (by simp; omega) (.cells #[.int .i64 0, .int .i64 0, .int .i64 0, .int .i64 0, .int .i64 0, .slice none 0 0, .int .i64 0] 30))
  have X := hid (((Blk.alloc w #[.slice a n c, .int .i64 A, .int .i64 E] (102)).below ((Below.refl _ _).alloc (Nat.le_refl _) (.cells #[.slice none 0 0, .int .i64 0, .int .i64 0] 102))).below ((Below.refl _ _).alloc (Nat.le_refl _) (.cells #[.int .i64 0, .int .i64 0, .int .i64 0, .int .i64 0, .int .i64 0, .slice none 0 0, .int .i64 0] 30)))
  have Y := hid ((Blk.alloc (w.alloc (.cells #[.slice a n c, .int .i64 A, .int .i64 E] 102)) #[.slice none 0 0, .int .i64 0, .int .i64 0] (102)).below ((Below.refl _ _).alloc (Nat.le_refl _) (.cells #[.int .i64 0, .int .i64 0, .int .i64 0, .int .i64 0, .int .i64 0, .slice none 0 0, .int .i64 0] 30)))
  have ZB := hid (Blk.alloc ((w.alloc (.cells #[.slice a n c, .int .i64 A, .int .i64 E] 102)).alloc (.cells #[.slice none 0 0, .int .i64 0, .int .i64 0] 102)) #[.int .i64 0, .int .i64 0, .int .i64 0, .int .i64 0, .int .i64 0, .slice none 0 0, .int .i64 0] (30))
  have s : Hid (w.heap.size + 3 ≤ (((w.alloc (.cells #[.slice a n c, .int .i64 A, .int .i64 E] 102)).alloc (.cells #[.slice none 0 0, .int .i64 0, .int .i64 0] 102)).alloc (.cells #[.int .i64 0, .int .i64 0, .int .i64 0, .int .i64 0, .int .i64 0, .slice none 0 0, .int .i64 0] 30)).heap.size) := by unfold Hid; simp
  rw [World.size_alloc] at Y
  rw [World.size_alloc, World.size_alloc] at ZB
  generalize ((w.alloc (.cells #[.slice a n c, .int .i64 A, .int .i64 E] 102)).alloc (.cells #[.slice none 0 0, .int .i64 0, .int .i64 0] 102)).alloc (.cells #[.int .i64 0, .int .i64 0, .int .i64 0, .int .i64 0, .int .i64 0, .slice none 0 0, .int .i64 0] 30) = W0 at *
  have LD := X.out.loadAt Try.underlying102 rfl sizeRead
  have CC := hid (N1.out W0 (HL.out.below B.out))
  go_wp2_with (refine wpList_load_at 102 rfl (.tmp 1) rfl _ _ rfl _ LD ?_)
  with_reducible refine CC.out.mono ?_
  rintro e w1 ⟨g, rfl, hg, hb, b1⟩
  have hg3 : w.heap.size + 3 ≤ g := by have := s.out; omega
  have hss := s.out
  have BX := X.out.below b1
  unfold Blk at BX
  replace X := hid ((X.out.below b1).row #[.slice a n c, .int .i64 P1, .int .i64 F1])
  replace Y := hid ((Y.out.below b1).other (ds := #[.slice a n c, .int .i64 P1, .int .i64 F1]) (show w.heap.size + 1 ≠ w.heap.size by omega))
  replace ZB := hid ((ZB.out.below b1).other (ds := #[.slice a n c, .int .i64 P1, .int .i64 F1]) (show w.heap.size + 1 + 1 ≠ w.heap.size by omega))
  have G := hid (hb.other (q := w.heap.size) (ds := #[.slice a n c, .int .i64 P1, .int .i64 F1]) (by omega))
  replace B := hid (setRow_below (q := w.heap.size) (cs := #[.slice a n c, .int .i64 P1, .int .i64 F1]) (B.out.trans (b1.mono B.out.size)) (Nat.le_refl _))
  replace s : Hid (w.heap.size + 3 ≤ (w1.setRow w.heap.size #[.slice a n c, .int .i64 P1, .int .i64 F1]).heap.size) := by unfold Hid; have := b1.size; simp; omega
  clear CC LD b1 hss hb
  go_upto_region 2 with (refine wpList_store_row rfl 102 (.tmp 1) (.tmp 10) rfl w.heap.size #[.slice a n c, .int .i64 P1, .int .i64 F1] rfl rfl 102 _ BX sizeRead rfl (by simp [Value.oneCell']) ?_)
  clear BX
  generalize w1.setRow w.heap.size #[.slice a n c, .int .i64 P1, .int .i64 F1] = W1 at *
  have LD := X.out.loadAt Try.underlying102 rfl sizeRead
  have CC := hid (N2.out W1 (HL.out.below B.out))
  go_wp2_with (refine wpList_load_at 102 rfl (.tmp 1) rfl _ _ rfl _ LD ?_)
  with_reducible refine CC.out.mono ?_
  rintro e w1 ⟨v, rfl, hv, hv2, b1⟩
  obtain ⟨va, vn, vc, rfl, hvg⟩ : ∃ va vn vc, v = .slice va vn vc ∧ (F2 = 0 → vn = NC ∧ OwnN W1.heap.size w1 (.slice va vn vc) vn LL) := by
    by_cases hF : F2 = 0
    · have h := hv hF
      obtain ⟨va, vc, rfl⟩ := h.form
      exact ⟨va, NC, vc, rfl, fun _ => ⟨rfl, h⟩⟩
    · exact ⟨none, 0, 0, hv2 hF, fun h => absurd h hF⟩
  have hve := hid (fun h => (hvg h).1)
  have hvo := fun h => (hvg h).2
  clear hv hv2 hvg
  have hss := s.out
  have BX := X.out.below b1
  unfold Blk at BX
  replace X := hid ((X.out.below b1).row #[.slice a n c, .int .i64 P2, .int .i64 F2])
  replace Y := hid ((Y.out.below b1).other (ds := #[.slice a n c, .int .i64 P2, .int .i64 F2]) (show w.heap.size + 1 ≠ w.heap.size by omega))
  replace ZB := hid ((ZB.out.below b1).other (ds := #[.slice a n c, .int .i64 P2, .int .i64 F2]) (show w.heap.size + 1 + 1 ≠ w.heap.size by omega))
  replace G := hid ((G.out.below b1).other (q := w.heap.size) (ds := #[.slice a n c, .int .i64 P2, .int .i64 F2]) (by omega))
  have OW := hid (fun z => ((hvo z).weaken (b' := w.heap.size + 3) (by omega)).row (q := w.heap.size) (by omega) #[.slice a n c, .int .i64 P2, .int .i64 F2])
  replace B := hid (setRow_below (q := w.heap.size) (cs := #[.slice a n c, .int .i64 P2, .int .i64 F2]) (B.out.trans (b1.mono B.out.size)) (Nat.le_refl _))
  replace s : Hid (w.heap.size + 3 ≤ (w1.setRow w.heap.size #[.slice a n c, .int .i64 P2, .int .i64 F2]).heap.size) := by unfold Hid; have := b1.size; simp; omega
  clear CC LD b1 hss hvo
  go_upto_region 3 with (refine wpList_store_row rfl 102 (.tmp 1) (.tmp 15) rfl w.heap.size #[.slice a n c, .int .i64 P2, .int .i64 F2] rfl rfl 102 _ BX sizeRead rfl (by simp [Value.oneCell']) ?_)
  clear BX
  generalize w1.setRow w.heap.size #[.slice a n c, .int .i64 P2, .int .i64 F2] = W2 at *
  have LD := X.out.loadAt Try.underlying102 rfl sizeRead
  have CC := hid (N3.out W2 (HL.out.below B.out))
  go_wp2_with (refine wpList_load_at 102 rfl (.tmp 1) rfl _ _ rfl _ LD ?_)
  with_reducible refine CC.out.mono ?_
  rintro e w1 ⟨rfl, b1⟩
  have hss := s.out
  have BX := X.out.below b1
  unfold Blk at BX
  replace X := hid ((X.out.below b1).row #[.slice a n c, .int .i64 P3, .int .i64 F3])
  replace Y := hid ((Y.out.below b1).other (ds := #[.slice a n c, .int .i64 P3, .int .i64 F3]) (show w.heap.size + 1 ≠ w.heap.size by omega))
  replace ZB := hid ((ZB.out.below b1).other (ds := #[.slice a n c, .int .i64 P3, .int .i64 F3]) (show w.heap.size + 1 + 1 ≠ w.heap.size by omega))
  replace G := hid ((G.out.below b1).other (q := w.heap.size) (ds := #[.slice a n c, .int .i64 P3, .int .i64 F3]) (by omega))
  replace OW := hid (fun z => ((OW.out z).below b1).row (q := w.heap.size) (by omega) #[.slice a n c, .int .i64 P3, .int .i64 F3])
  replace B := hid (setRow_below (q := w.heap.size) (cs := #[.slice a n c, .int .i64 P3, .int .i64 F3]) (B.out.trans (b1.mono B.out.size)) (Nat.le_refl _))
  replace s : Hid (w.heap.size + 3 ≤ (w1.setRow w.heap.size #[.slice a n c, .int .i64 P3, .int .i64 F3]).heap.size) := by unfold Hid; have := b1.size; simp; omega
  clear CC LD b1 hss
  go_upto_region 4 with (refine wpList_store_row rfl 102 (.tmp 1) (.tmp 20) rfl w.heap.size #[.slice a n c, .int .i64 P3, .int .i64 F3] rfl rfl 102 _ BX sizeRead rfl (by simp [Value.oneCell']) ?_)
  clear BX
  generalize w1.setRow w.heap.size #[.slice a n c, .int .i64 P3, .int .i64 F3] = W3 at *
  have dr : Blk W3.drew w.heap.size 102 #[.slice a n c, .int .i64 P3, .int .i64 F3] := X.out
  have dy : Blk W3.drew (w.heap.size + 1) 102 #[.slice none 0 0, .int .i64 0, .int .i64 0] := Y.out
  have dz : Blk W3.drew (w.heap.size + 2) 30 #[.int .i64 0, .int .i64 0, .int .i64 0, .int .i64 0, .int .i64 0, .slice none 0 0, .int .i64 0] := ZB.out
  have dg : Blk W3.drew g 2 #[.int .i64 x0, .int .i64 x1, .int .i64 x2, .int .i64 x3, .int .i64 x4] := G.out
  have dw := hid (fun z => (show OwnN (w.heap.size + 3) W3.drew _ _ _ from OW.out z))
  have db : Below w.heap.size w W3.drew := B.out.drew
  clear X Y ZB B s OW G
  refine wp_region_held_drew (S := fun W => Blk W w.heap.size 102 #[.slice a n c, .int .i64 P3, .int .i64 F3] ∧ Blk W g 2 #[.int .i64 x0, .int .i64 x1, .int .i64 x2, .int .i64 x3, .int .i64 x4]) (by kernel_rfl) ⟨dr, dg⟩ (fun hHeld => ?_)
  generalize W3.drew = WD at *
  refine wpAnyH_take (i := 0) (v := .agg #[.slice a n c, .int .i64 P3, .int .i64 F3]) rfl (by kernel_rfl) (by kernel_rfl) (by kernel_rfl) (fun _ _ _ h => h) (yieldsIf_load_mid (by rfl) 102 (.tmp 1) rfl w.heap.size 0 rfl (#[.slice a n c, .int .i64 P3, .int .i64 F3] : Array Value).toList _ (fun W hW => hW.1.range) Try.underlying102 rfl sizeRead) (by assumption) ?_
  (try simp only [Act.put, List.getElem_toArray, List.getElem_cons_succ, List.getElem_cons_zero, List.setIfInBounds_toArray, List.set_cons_zero, List.set_cons_succ])
  refine wpAnyH_take (i := 1) (v := .slice (some ⟨g, 0, none⟩) 5 5) rfl (by kernel_rfl) (by kernel_rfl) (by kernel_rfl) (fun _ _ _ h => h) (Or.inl ⟨by rfl, ?_⟩) (by assumption) ?_
  · (intro w hSw; (try dsimp only at hSw); obtain ⟨hr, hg⟩ := hSw;  go_simp)
  (try simp only [Act.put, List.getElem_toArray, List.getElem_cons_succ, List.getElem_cons_zero, List.setIfInBounds_toArray, List.set_cons_zero, List.set_cons_succ])
  refine wpAnyH_take (i := 2) (v := .pointer (some ⟨g, 0, none⟩)) rfl (by kernel_rfl) (by kernel_rfl) (by kernel_rfl) (fun _ _ _ h => h) (Or.inl ⟨by rfl, ?_⟩) (by assumption) ?_
  · (intro w hSw; (try dsimp only at hSw); obtain ⟨hr, hg⟩ := hSw;  go_simp)
  (try simp only [Act.put, List.getElem_toArray, List.getElem_cons_succ, List.getElem_cons_zero, List.setIfInBounds_toArray, List.set_cons_zero, List.set_cons_succ])
  refine wpAnyH_take (i := 3) (v := .int .i64 x0) rfl (by kernel_rfl) (by kernel_rfl) (by kernel_rfl) (fun _ _ _ h => h) (Or.inl ⟨by rfl, ?_⟩) (by assumption) ?_
  · (intro w hSw; (try dsimp only at hSw); obtain ⟨hr, hg⟩ := hSw; have hc := hg.cellAt 0 _ rfl; go_simp)
  (try simp only [Act.put, List.getElem_toArray, List.getElem_cons_succ, List.getElem_cons_zero, List.setIfInBounds_toArray, List.set_cons_zero, List.set_cons_succ])
  refine wpAnyH_take (i := 4) (v := .slice (some ⟨g, 0, none⟩) 5 5) rfl (by kernel_rfl) (by kernel_rfl) (by kernel_rfl) (fun _ _ _ h => h) (Or.inl ⟨by rfl, ?_⟩) (by assumption) ?_
  · (intro w hSw; (try dsimp only at hSw); obtain ⟨hr, hg⟩ := hSw;  go_simp)
  (try simp only [Act.put, List.getElem_toArray, List.getElem_cons_succ, List.getElem_cons_zero, List.setIfInBounds_toArray, List.set_cons_zero, List.set_cons_succ])
  refine wpAnyH_take (i := 5) (v := .pointer (some ⟨g, 1, none⟩)) rfl (by kernel_rfl) (by kernel_rfl) (by kernel_rfl) (fun _ _ _ h => h) (Or.inl ⟨by rfl, ?_⟩) (by assumption) ?_
  · (intro w hSw; (try dsimp only at hSw); obtain ⟨hr, hg⟩ := hSw;  go_simp)
  (try simp only [Act.put, List.getElem_toArray, List.getElem_cons_succ, List.getElem_cons_zero, List.setIfInBounds_toArray, List.set_cons_zero, List.set_cons_succ])
  refine wpAnyH_take (i := 6) (v := .int .i64 x1) rfl (by kernel_rfl) (by kernel_rfl) (by kernel_rfl) (fun _ _ _ h => h) (Or.inl ⟨by rfl, ?_⟩) (by assumption) ?_
  · (intro w hSw; (try dsimp only at hSw); obtain ⟨hr, hg⟩ := hSw; have hc := hg.cellAt 1 _ rfl; go_simp)
  (try simp only [Act.put, List.getElem_toArray, List.getElem_cons_succ, List.getElem_cons_zero, List.setIfInBounds_toArray, List.set_cons_zero, List.set_cons_succ])
  refine wpAnyH_take (i := 7) (v := .slice (some ⟨g, 0, none⟩) 5 5) rfl (by kernel_rfl) (by kernel_rfl) (by kernel_rfl) (fun _ _ _ h => h) (Or.inl ⟨by rfl, ?_⟩) (by assumption) ?_
  · (intro w hSw; (try dsimp only at hSw); obtain ⟨hr, hg⟩ := hSw;  go_simp)
  (try simp only [Act.put, List.getElem_toArray, List.getElem_cons_succ, List.getElem_cons_zero, List.setIfInBounds_toArray, List.set_cons_zero, List.set_cons_succ])
  refine wpAnyH_take (i := 8) (v := .pointer (some ⟨g, 2, none⟩)) rfl (by kernel_rfl) (by kernel_rfl) (by kernel_rfl) (fun _ _ _ h => h) (Or.inl ⟨by rfl, ?_⟩) (by assumption) ?_
  · (intro w hSw; (try dsimp only at hSw); obtain ⟨hr, hg⟩ := hSw;  go_simp)
  (try simp only [Act.put, List.getElem_toArray, List.getElem_cons_succ, List.getElem_cons_zero, List.setIfInBounds_toArray, List.set_cons_zero, List.set_cons_succ])
  refine wpAnyH_take (i := 9) (v := .int .i64 x2) rfl (by kernel_rfl) (by kernel_rfl) (by kernel_rfl) (fun _ _ _ h => h) (Or.inl ⟨by rfl, ?_⟩) (by assumption) ?_
  · (intro w hSw; (try dsimp only at hSw); obtain ⟨hr, hg⟩ := hSw; have hc := hg.cellAt 2 _ rfl; go_simp)
  (try simp only [Act.put, List.getElem_toArray, List.getElem_cons_succ, List.getElem_cons_zero, List.setIfInBounds_toArray, List.set_cons_zero, List.set_cons_succ])
  refine wpAnyH_take (i := 10) (v := .slice (some ⟨g, 0, none⟩) 5 5) rfl (by kernel_rfl) (by kernel_rfl) (by kernel_rfl) (fun _ _ _ h => h) (Or.inl ⟨by rfl, ?_⟩) (by assumption) ?_
  · (intro w hSw; (try dsimp only at hSw); obtain ⟨hr, hg⟩ := hSw;  go_simp)
  (try simp only [Act.put, List.getElem_toArray, List.getElem_cons_succ, List.getElem_cons_zero, List.setIfInBounds_toArray, List.set_cons_zero, List.set_cons_succ])
  refine wpAnyH_take (i := 11) (v := .pointer (some ⟨g, 3, none⟩)) rfl (by kernel_rfl) (by kernel_rfl) (by kernel_rfl) (fun _ _ _ h => h) (Or.inl ⟨by rfl, ?_⟩) (by assumption) ?_
  · (intro w hSw; (try dsimp only at hSw); obtain ⟨hr, hg⟩ := hSw;  go_simp)
  (try simp only [Act.put, List.getElem_toArray, List.getElem_cons_succ, List.getElem_cons_zero, List.setIfInBounds_toArray, List.set_cons_zero, List.set_cons_succ])
  refine wpAnyH_take (i := 12) (v := .int .i64 x3) rfl (by kernel_rfl) (by kernel_rfl) (by kernel_rfl) (fun _ _ _ h => h) (Or.inl ⟨by rfl, ?_⟩) (by assumption) ?_
  · (intro w hSw; (try dsimp only at hSw); obtain ⟨hr, hg⟩ := hSw; have hc := hg.cellAt 3 _ rfl; go_simp)
  (try simp only [Act.put, List.getElem_toArray, List.getElem_cons_succ, List.getElem_cons_zero, List.setIfInBounds_toArray, List.set_cons_zero, List.set_cons_succ])
  refine wpAnyH_take (i := 13) (v := .agg #[.int .i64 x2, .int .i64 x3]) rfl (by kernel_rfl) (by kernel_rfl) (by kernel_rfl) (fun _ _ _ h => h) (yieldsIf_build (by rfl) _ _ rfl #[.int .i64 x2, .int .i64 x3] (by kernel_rfl)) (by assumption) ?_
  (try simp only [Act.put, List.getElem_toArray, List.getElem_cons_succ, List.getElem_cons_zero, List.setIfInBounds_toArray, List.set_cons_zero, List.set_cons_succ])
  refine wpAnyH_take (i := 14) (v := .slice (some ⟨g, 0, none⟩) 5 5) rfl (by kernel_rfl) (by kernel_rfl) (by kernel_rfl) (fun _ _ _ h => h) (Or.inl ⟨by rfl, ?_⟩) (by assumption) ?_
  · (intro w hSw; (try dsimp only at hSw); obtain ⟨hr, hg⟩ := hSw;  go_simp)
  (try simp only [Act.put, List.getElem_toArray, List.getElem_cons_succ, List.getElem_cons_zero, List.setIfInBounds_toArray, List.set_cons_zero, List.set_cons_succ])
  refine wpAnyH_take (i := 15) (v := .pointer (some ⟨g, 4, none⟩)) rfl (by kernel_rfl) (by kernel_rfl) (by kernel_rfl) (fun _ _ _ h => h) (Or.inl ⟨by rfl, ?_⟩) (by assumption) ?_
  · (intro w hSw; (try dsimp only at hSw); obtain ⟨hr, hg⟩ := hSw;  go_simp)
  (try simp only [Act.put, List.getElem_toArray, List.getElem_cons_succ, List.getElem_cons_zero, List.setIfInBounds_toArray, List.set_cons_zero, List.set_cons_succ])
  refine wpAnyH_take (i := 16) (v := .int .i64 x4) rfl (by kernel_rfl) (by kernel_rfl) (by kernel_rfl) (fun _ _ _ h => h) (Or.inl ⟨by rfl, ?_⟩) (by assumption) ?_
  · (intro w hSw; (try dsimp only at hSw); obtain ⟨hr, hg⟩ := hSw; have hc := hg.cellAt 4 _ rfl; go_simp)
  (try simp only [Act.put, List.getElem_toArray, List.getElem_cons_succ, List.getElem_cons_zero, List.setIfInBounds_toArray, List.set_cons_zero, List.set_cons_succ])
  refine wpAnyH_take (i := 17) (v := .slice va vn vc) rfl (by kernel_rfl) (by kernel_rfl) (by kernel_rfl) (fun _ _ _ h => h) (Or.inl ⟨by rfl, ?_⟩) (by assumption) ?_
  · (intro w hSw; (try dsimp only at hSw); obtain ⟨hr, hg⟩ := hSw;  go_simp)
  (try simp only [Act.put, List.getElem_toArray, List.getElem_cons_succ, List.getElem_cons_zero, List.setIfInBounds_toArray, List.set_cons_zero, List.set_cons_succ])
  refine wpAnyH_take (i := 18) (v := .int .i64 st) rfl (by kernel_rfl) (by kernel_rfl) (by kernel_rfl) (fun _ _ _ h => h) (Or.inl ⟨by rfl, ?_⟩) (by assumption) ?_
  · (intro w hSw; (try dsimp only at hSw); obtain ⟨hr, hg⟩ := hSw;  go_simp)
  (try simp only [Act.put, List.getElem_toArray, List.getElem_cons_succ, List.getElem_cons_zero, List.setIfInBounds_toArray, List.set_cons_zero, List.set_cons_succ])
  refine wpAnyH_take (i := 19) (v := .agg #[.int .i64 x0, .int .i64 x1, .int .i64 x2, .int .i64 x3, .int .i64 x4, .slice va vn vc, .int .i64 st]) rfl (by kernel_rfl) (by kernel_rfl) (by kernel_rfl) (fun _ _ _ h => h) (yieldsIf_build (by rfl) _ _ rfl #[.int .i64 x0, .int .i64 x1, .int .i64 x2, .int .i64 x3, .int .i64 x4, .slice va vn vc, .int .i64 st] (by kernel_rfl)) (by assumption) ?_
  (try simp only [Act.put, List.getElem_toArray, List.getElem_cons_succ, List.getElem_cons_zero, List.setIfInBounds_toArray, List.set_cons_zero, List.set_cons_succ])
  refine wpAnyH_ready (rs := [20]) (by kernel_rfl) (by simp) ?_
  refine AllReadyH.cons rfl (fun K hK => ?_) AllReadyH.nil
  refine storeRow_step rfl 102 (.tmp 2) (.tmp 22) rfl (w.heap.size + 1) #[.slice a n c, .int .i64 P3, .int .i64 F3] rfl rfl 102 _ dy sizeRead rfl (by simp [Value.oneCell']) ?_
  refine hK.out _ _ ⟨dr.other (by omega), dg.other (by omega)⟩ (fun hHeld => ?_)
  clear hK K
  (try simp only [Act.put, List.getElem_toArray, List.getElem_cons_succ, List.getElem_cons_zero, List.setIfInBounds_toArray, List.set_cons_zero, List.set_cons_succ])
  refine wpAnyH_ready (rs := [21]) (by kernel_rfl) (by simp) ?_
  refine AllReadyH.cons rfl (fun K hK => ?_) AllReadyH.nil
  refine storeRow_step rfl 30 (.tmp 3) (.tmp 41) rfl (w.heap.size + 2) #[.int .i64 x0, .int .i64 x1, .int .i64 x2, .int .i64 x3, .int .i64 x4, .slice va vn vc, .int .i64 st] rfl rfl 30 _ (dz.other (by omega)) sizeTask rfl (by simp [Value.oneCell']) ?_
  refine hK.out _ _ ⟨(dr.other (by omega)).other (by omega), (dg.other (by omega)).other (by omega)⟩ (fun hHeld => ?_)
  clear hK K
  (try simp only [Act.put, List.getElem_toArray, List.getElem_cons_succ, List.getElem_cons_zero, List.setIfInBounds_toArray, List.set_cons_zero, List.set_cons_succ])
  refine wpAnyH_done (by kernel_rfl) ?_ _
  clear hHeld
  go_wp2_with fail
  refine bodyPost_ret (results_cells2 rfl rfl rfl (((dy.row _).other (by omega)).loadVar Try.underlying102 rfl sizeRead) (((dz.other (by omega)).row #[.int .i64 x0, .int .i64 x1, .int .i64 x2, .int .i64 x3, .int .i64 x4, .slice va vn vc, .int .i64 st]).loadVar Try.underlying30 rfl sizeTask)) rfl ?_
  rw [EQ.out]
  refine ⟨⟨x0, x1, x2, x3, x4, va, vn, vc, st, LL⟩, rfl, fun h => ?_, setRow_below (setRow_below db (by omega)) (by omega)⟩
  have hf := EE.out h
  have e := hve.out hf
  subst e
  exact ⟨⟨rfl, rfl, rfl, rfl, rfl, rfl, rfl, rfl⟩, (((dw.out hf).row (by omega) _).row (by omega) _).weaken (by omega)⟩
set_option maxRecDepth 100000 in
set_option maxHeartbeats 8000000 in
theorem dalease_any (a : Option Addr) (n c : Nat) (l : List Int) (A E : Int) (w : World) (hl : HoldsB w a n c l) (h0 : 0 ≤ A) (h1 : A ≤ n) :
    Calls Try.prog 93 #[.agg #[.slice a n c, .int .i64 A, .int .i64 E]] w fun e w' => ∃ y : Le, e = .returned (.tuple #[.agg #[.slice a n c, .int .i64 (rdL l A E).2.1, .int .i64 (rdL l A E).2.2], .agg y.cs.toArray]) ∧ ((rdL l A E).2.2 = 0 → LeSame (rdL l A E).1 y ∧ OwnN w.heap.size w' (.slice y.sa y.sl y.sc) y.sl y.co) ∧ Below w.heap.size w w' := by
  have HL := hid hl
  have hlen := hl.1
  have hnm := hl.2.1
  clear hl
  have EQ : Hid (rdL l A E = (⟨lsV (tkI l) A E 0, lsV (tkI l) A E 1, lsV (tkI l) A E 2, none, liC (tkI l) l (lsS (tkI l) A E 3).1 (lsS (tkI l) A E 3).2, 0, lsV (tkI l) (liF (tkI l) l (lsS (tkI l) A E 3).1 (lsS (tkI l) A E 3).2).1 (liF (tkI l) l (lsS (tkI l) A E 3).1 (lsS (tkI l) A E 3).2).2 0, lsV (tkI l) (liF (tkI l) l (lsS (tkI l) A E 3).1 (lsS (tkI l) A E 3).2).1 (liF (tkI l) l (lsS (tkI l) A E 3).1 (lsS (tkI l) A E 3).2).2 1, lsV (tkI l) (liF (tkI l) l (lsS (tkI l) A E 3).1 (lsS (tkI l) A E 3).2).1 (liF (tkI l) l (lsS (tkI l) A E 3).1 (lsS (tkI l) A E 3).2).2 2, ((upT l (lsS (tkI l) (liF (tkI l) l (lsS (tkI l) A E 3).1 (lsS (tkI l) A E 3).2).1 (liF (tkI l) l (lsS (tkI l) A E 3).1 (lsS (tkI l) A E 3).2).2 3).1 (lsS (tkI l) (liF (tkI l) l (lsS (tkI l) A E 3).1 (lsS (tkI l) A E 3).2).1 (liF (tkI l) l (lsS (tkI l) A E 3).1 (lsS (tkI l) A E 3).2).2 3).2 1 4).1 == 1), liL (tkI l) l (lsS (tkI l) A E 3).1 (lsS (tkI l) A E 3).2⟩, (upT l (lsS (tkI l) (liF (tkI l) l (lsS (tkI l) A E 3).1 (lsS (tkI l) A E 3).2).1 (liF (tkI l) l (lsS (tkI l) A E 3).1 (lsS (tkI l) A E 3).2).2 3).1 (lsS (tkI l) (liF (tkI l) l (lsS (tkI l) A E 3).1 (lsS (tkI l) A E 3).2).1 (liF (tkI l) l (lsS (tkI l) A E 3).1 (lsS (tkI l) A E 3).2).2 3).2 1 4).2)) := by unfold Hid rdL rlF rlN rlB rlC rlL; simp only [tkc_ls]
  have a3 := lsS_at (pe := tkI l) (n := n) (E := E) (fun A E h0 h1 => by have := tkI_at l A E h0 (by omega); omega) h0 h1 3
  have aB := liF_at (pe := tkI l) (l := l) (E := (lsS (tkI l) A E 3).2) (fun A E h0 h1 => tkI_at l A E h0 h1) a3.1 (by omega)
  have aS := lsS_at (pe := tkI l) (n := n) (E := (liF (tkI l) l (lsS (tkI l) A E 3).1 (lsS (tkI l) A E 3).2).2) (fun A E h0 h1 => by have := tkI_at l A E h0 (by omega); omega) aB.1 (by omega) 3
  have N1 := hid (fun W (H : HoldsB W a n c l) => dnums3_any a n c l A E W H h0 h1)
  have N2 := hid (fun W (H : HoldsB W a n c l) => dlist_any a n c l (lsS (tkI l) A E 3).1 (lsS (tkI l) A E 3).2 W H a3.1 a3.2)
  have N3 := hid (fun W (H : HoldsB W a n c l) => dnums3_any a n c l (liF (tkI l) l (lsS (tkI l) A E 3).1 (lsS (tkI l) A E 3).2).1 (liF (tkI l) l (lsS (tkI l) A E 3).1 (lsS (tkI l) A E 3).2).2 W H aB.1 (by omega))
  have N4 := hid (fun W (H : HoldsB W a n c l) => dupto_any a n c l (lsS (tkI l) (liF (tkI l) l (lsS (tkI l) A E 3).1 (lsS (tkI l) A E 3).2).1 (liF (tkI l) l (lsS (tkI l) A E 3).1 (lsS (tkI l) A E 3).2).2 3).1 (lsS (tkI l) (liF (tkI l) l (lsS (tkI l) A E 3).1 (lsS (tkI l) A E 3).2).1 (liF (tkI l) l (lsS (tkI l) A E 3).1 (lsS (tkI l) A E 3).2).2 3).2 1 W H ⟨by omega, by omega⟩ (by omega) (by omega))
  have EE := hid (fun (h : (upT l (lsS (tkI l) (liF (tkI l) l (lsS (tkI l) A E 3).1 (lsS (tkI l) A E 3).2).1 (liF (tkI l) l (lsS (tkI l) A E 3).1 (lsS (tkI l) A E 3).2).2 3).1 (lsS (tkI l) (liF (tkI l) l (lsS (tkI l) A E 3).1 (lsS (tkI l) A E 3).2).1 (liF (tkI l) l (lsS (tkI l) A E 3).1 (lsS (tkI l) A E 3).2).2 3).2 1 4).2.2 = 0) => lsS_err (l := l) 3 (upT_err h))
  clear a3 aB aS
  generalize lsV (tkI l) A E 0 = x0 at *
  generalize lsV (tkI l) A E 1 = x1 at *
  generalize lsV (tkI l) A E 2 = x2 at *
  generalize liL (tkI l) l (lsS (tkI l) A E 3).1 (lsS (tkI l) A E 3).2 = LL at *
  generalize liC (tkI l) l (lsS (tkI l) A E 3).1 (lsS (tkI l) A E 3).2 = NC at *
  generalize hli : liF (tkI l) l (lsS (tkI l) A E 3).1 (lsS (tkI l) A E 3).2 = S2 at *
  clear hli
  generalize lsS (tkI l) A E 3 = S1 at *
  obtain ⟨P1, F1⟩ := S1
  obtain ⟨P2, F2⟩ := S2
  simp only at EQ N1 N2 N3 N4 EE
  generalize lsV (tkI l) P2 F2 0 = z0 at *
  generalize lsV (tkI l) P2 F2 1 = z1 at *
  generalize lsV (tkI l) P2 F2 2 = z2 at *
  generalize hs3 : lsS (tkI l) P2 F2 3 = S3 at *
  clear hs3
  obtain ⟨P3, F3⟩ := S3
  simp only at EQ N3 N4 EE
  generalize hu : upT l P3 F3 1 4 = S4 at *
  clear hu
  obtain ⟨u4, P4, F4⟩ := S4
  simp only at EQ N4 EE
  go_enter Try.func93, Try.ntmps93
  go_upto_region 1 with fail
  have B := hid ((((Below.refl w.heap.size w).alloc (Nat.le_refl _) (.cells #[.slice a n c, .int .i64 A, .int .i64 E] 102)).alloc (by simp) (.cells #[.slice none 0 0, .int .i64 0, .int .i64 0] 102)).alloc (by simp; omega) (.cells #[.int .i64 0, .int .i64 0, .int .i64 0, .slice none 0 0, .int .i64 0, .int .i64 0, .int .i64 0, .bool false] 138))
  have X := hid (((Blk.alloc w #[.slice a n c, .int .i64 A, .int .i64 E] (102)).below ((Below.refl _ _).alloc (Nat.le_refl _) (.cells #[.slice none 0 0, .int .i64 0, .int .i64 0] 102))).below ((Below.refl _ _).alloc (Nat.le_refl _) (.cells #[.int .i64 0, .int .i64 0, .int .i64 0, .slice none 0 0, .int .i64 0, .int .i64 0, .int .i64 0, .bool false] 138)))
  have Y := hid ((Blk.alloc (w.alloc (.cells #[.slice a n c, .int .i64 A, .int .i64 E] 102)) #[.slice none 0 0, .int .i64 0, .int .i64 0] (102)).below ((Below.refl _ _).alloc (Nat.le_refl _) (.cells #[.int .i64 0, .int .i64 0, .int .i64 0, .slice none 0 0, .int .i64 0, .int .i64 0, .int .i64 0, .bool false] 138)))
  have ZB := hid (Blk.alloc ((w.alloc (.cells #[.slice a n c, .int .i64 A, .int .i64 E] 102)).alloc (.cells #[.slice none 0 0, .int .i64 0, .int .i64 0] 102)) #[.int .i64 0, .int .i64 0, .int .i64 0, .slice none 0 0, .int .i64 0, .int .i64 0, .int .i64 0, .bool false] (138))
  have s : Hid (w.heap.size + 3 ≤ (((w.alloc (.cells #[.slice a n c, .int .i64 A, .int .i64 E] 102)).alloc (.cells #[.slice none 0 0, .int .i64 0, .int .i64 0] 102)).alloc (.cells #[.int .i64 0, .int .i64 0, .int .i64 0, .slice none 0 0, .int .i64 0, .int .i64 0, .int .i64 0, .bool false] 138)).heap.size) := by unfold Hid; simp
  rw [World.size_alloc] at Y
  rw [World.size_alloc, World.size_alloc] at ZB
  generalize ((w.alloc (.cells #[.slice a n c, .int .i64 A, .int .i64 E] 102)).alloc (.cells #[.slice none 0 0, .int .i64 0, .int .i64 0] 102)).alloc (.cells #[.int .i64 0, .int .i64 0, .int .i64 0, .slice none 0 0, .int .i64 0, .int .i64 0, .int .i64 0, .bool false] 138) = W0 at *
  have LD := X.out.loadAt Try.underlying102 rfl sizeRead
  have CC := hid (N1.out W0 (HL.out.below B.out))
  go_wp2_with (refine wpList_load_at 102 rfl (.tmp 1) rfl _ _ rfl _ LD ?_)
  with_reducible refine CC.out.mono ?_
  rintro e w1 ⟨g, rfl, hg, hb, b1⟩
  have hg3 : w.heap.size + 3 ≤ g := by have := s.out; omega
  have hss := s.out
  have BX := X.out.below b1
  unfold Blk at BX
  replace X := hid ((X.out.below b1).row #[.slice a n c, .int .i64 P1, .int .i64 F1])
  replace Y := hid ((Y.out.below b1).other (ds := #[.slice a n c, .int .i64 P1, .int .i64 F1]) (show w.heap.size + 1 ≠ w.heap.size by omega))
  replace ZB := hid ((ZB.out.below b1).other (ds := #[.slice a n c, .int .i64 P1, .int .i64 F1]) (show w.heap.size + 1 + 1 ≠ w.heap.size by omega))
  have G := hid (hb.other (q := w.heap.size) (ds := #[.slice a n c, .int .i64 P1, .int .i64 F1]) (by omega))
  replace B := hid (setRow_below (q := w.heap.size) (cs := #[.slice a n c, .int .i64 P1, .int .i64 F1]) (B.out.trans (b1.mono B.out.size)) (Nat.le_refl _))
  replace s : Hid (w.heap.size + 3 ≤ (w1.setRow w.heap.size #[.slice a n c, .int .i64 P1, .int .i64 F1]).heap.size) := by unfold Hid; have := b1.size; simp; omega
  clear CC LD b1 hss hb
  go_upto_region 2 with (refine wpList_store_row rfl 102 (.tmp 1) (.tmp 11) rfl w.heap.size #[.slice a n c, .int .i64 P1, .int .i64 F1] rfl rfl 102 _ BX sizeRead rfl (by simp [Value.oneCell']) ?_)
  clear BX
  generalize w1.setRow w.heap.size #[.slice a n c, .int .i64 P1, .int .i64 F1] = W1 at *
  have LD := X.out.loadAt Try.underlying102 rfl sizeRead
  have CC := hid (N2.out W1 (HL.out.below B.out))
  go_wp2_with (refine wpList_load_at 102 rfl (.tmp 1) rfl _ _ rfl _ LD ?_)
  with_reducible refine CC.out.mono ?_
  rintro e w1 ⟨v, rfl, hv, hv2, b1⟩
  obtain ⟨va, vn, vc, rfl, hvg⟩ : ∃ va vn vc, v = .slice va vn vc ∧ (F2 = 0 → vn = NC ∧ OwnN W1.heap.size w1 (.slice va vn vc) vn LL) := by
    by_cases hF : F2 = 0
    · have h := hv hF
      obtain ⟨va, vc, rfl⟩ := h.form
      exact ⟨va, NC, vc, rfl, fun _ => ⟨rfl, h⟩⟩
    · exact ⟨none, 0, 0, hv2 hF, fun h => absurd h hF⟩
  have hve := hid (fun h => (hvg h).1)
  have hvo := fun h => (hvg h).2
  clear hv hv2 hvg
  have hss := s.out
  have BX := X.out.below b1
  unfold Blk at BX
  replace X := hid ((X.out.below b1).row #[.slice a n c, .int .i64 P2, .int .i64 F2])
  replace Y := hid ((Y.out.below b1).other (ds := #[.slice a n c, .int .i64 P2, .int .i64 F2]) (show w.heap.size + 1 ≠ w.heap.size by omega))
  replace ZB := hid ((ZB.out.below b1).other (ds := #[.slice a n c, .int .i64 P2, .int .i64 F2]) (show w.heap.size + 1 + 1 ≠ w.heap.size by omega))
  replace G := hid ((G.out.below b1).other (q := w.heap.size) (ds := #[.slice a n c, .int .i64 P2, .int .i64 F2]) (by omega))
  have OW := hid (fun z => ((hvo z).weaken (b' := w.heap.size + 3) (by omega)).row (q := w.heap.size) (by omega) #[.slice a n c, .int .i64 P2, .int .i64 F2])
  replace B := hid (setRow_below (q := w.heap.size) (cs := #[.slice a n c, .int .i64 P2, .int .i64 F2]) (B.out.trans (b1.mono B.out.size)) (Nat.le_refl _))
  replace s : Hid (w.heap.size + 3 ≤ (w1.setRow w.heap.size #[.slice a n c, .int .i64 P2, .int .i64 F2]).heap.size) := by unfold Hid; have := b1.size; simp; omega
  clear CC LD b1 hss hvo
  go_upto_region 3 with (refine wpList_store_row rfl 102 (.tmp 1) (.tmp 16) rfl w.heap.size #[.slice a n c, .int .i64 P2, .int .i64 F2] rfl rfl 102 _ BX sizeRead rfl (by simp [Value.oneCell']) ?_)
  clear BX
  generalize w1.setRow w.heap.size #[.slice a n c, .int .i64 P2, .int .i64 F2] = W2 at *
  have LD := X.out.loadAt Try.underlying102 rfl sizeRead
  have CC := hid (N3.out W2 (HL.out.below B.out))
  go_wp2_with (refine wpList_load_at 102 rfl (.tmp 1) rfl _ _ rfl _ LD ?_)
  with_reducible refine CC.out.mono ?_
  rintro e w1 ⟨g', rfl, hg', hb', b1⟩
  have hg4 : w.heap.size + 3 ≤ g' := by have := s.out; omega
  have hss := s.out
  have BX := X.out.below b1
  unfold Blk at BX
  replace X := hid ((X.out.below b1).row #[.slice a n c, .int .i64 P3, .int .i64 F3])
  replace Y := hid ((Y.out.below b1).other (ds := #[.slice a n c, .int .i64 P3, .int .i64 F3]) (show w.heap.size + 1 ≠ w.heap.size by omega))
  replace ZB := hid ((ZB.out.below b1).other (ds := #[.slice a n c, .int .i64 P3, .int .i64 F3]) (show w.heap.size + 1 + 1 ≠ w.heap.size by omega))
  replace G := hid ((G.out.below b1).other (q := w.heap.size) (ds := #[.slice a n c, .int .i64 P3, .int .i64 F3]) (by omega))
  replace OW := hid (fun z => ((OW.out z).below b1).row (q := w.heap.size) (by omega) #[.slice a n c, .int .i64 P3, .int .i64 F3])
  have G2 := hid (hb'.other (q := w.heap.size) (ds := #[.slice a n c, .int .i64 P3, .int .i64 F3]) (by omega))
  replace B := hid (setRow_below (q := w.heap.size) (cs := #[.slice a n c, .int .i64 P3, .int .i64 F3]) (B.out.trans (b1.mono B.out.size)) (Nat.le_refl _))
  replace s : Hid (w.heap.size + 3 ≤ (w1.setRow w.heap.size #[.slice a n c, .int .i64 P3, .int .i64 F3]).heap.size) := by unfold Hid; have := b1.size; simp; omega
  clear CC LD b1 hss hb'
  go_upto_region 4 with (refine wpList_store_row rfl 102 (.tmp 1) (.tmp 21) rfl w.heap.size #[.slice a n c, .int .i64 P3, .int .i64 F3] rfl rfl 102 _ BX sizeRead rfl (by simp [Value.oneCell']) ?_)
  clear BX
  generalize w1.setRow w.heap.size #[.slice a n c, .int .i64 P3, .int .i64 F3] = W3 at *
  have LD := X.out.loadAt Try.underlying102 rfl sizeRead
  have CC := hid (N4.out W3 (HL.out.below B.out))
  go_wp2_with (refine wpList_load_at 102 rfl (.tmp 1) rfl _ _ rfl _ LD ?_)
  with_reducible refine CC.out.mono ?_
  rintro e w1 ⟨rfl, b1⟩
  have hss := s.out
  have BX := X.out.below b1
  unfold Blk at BX
  replace X := hid ((X.out.below b1).row #[.slice a n c, .int .i64 P4, .int .i64 F4])
  replace Y := hid ((Y.out.below b1).other (ds := #[.slice a n c, .int .i64 P4, .int .i64 F4]) (show w.heap.size + 1 ≠ w.heap.size by omega))
  replace ZB := hid ((ZB.out.below b1).other (ds := #[.slice a n c, .int .i64 P4, .int .i64 F4]) (show w.heap.size + 1 + 1 ≠ w.heap.size by omega))
  replace G := hid ((G.out.below b1).other (q := w.heap.size) (ds := #[.slice a n c, .int .i64 P4, .int .i64 F4]) (by omega))
  replace OW := hid (fun z => ((OW.out z).below b1).row (q := w.heap.size) (by omega) #[.slice a n c, .int .i64 P4, .int .i64 F4])
  replace G2 := hid ((G2.out.below b1).other (q := w.heap.size) (ds := #[.slice a n c, .int .i64 P4, .int .i64 F4]) (by omega))
  replace B := hid (setRow_below (q := w.heap.size) (cs := #[.slice a n c, .int .i64 P4, .int .i64 F4]) (B.out.trans (b1.mono B.out.size)) (Nat.le_refl _))
  replace s : Hid (w.heap.size + 3 ≤ (w1.setRow w.heap.size #[.slice a n c, .int .i64 P4, .int .i64 F4]).heap.size) := by unfold Hid; have := b1.size; simp; omega
  clear CC LD b1 hss
  go_upto_region 5 with (refine wpList_store_row rfl 102 (.tmp 1) (.tmp 26) rfl w.heap.size #[.slice a n c, .int .i64 P4, .int .i64 F4] rfl rfl 102 _ BX sizeRead rfl (by simp [Value.oneCell']) ?_)
  clear BX
  generalize w1.setRow w.heap.size #[.slice a n c, .int .i64 P4, .int .i64 F4] = W4 at *
  have dr : Blk W4.drew w.heap.size 102 #[.slice a n c, .int .i64 P4, .int .i64 F4] := X.out
  have dy : Blk W4.drew (w.heap.size + 1) 102 #[.slice none 0 0, .int .i64 0, .int .i64 0] := Y.out
  have dz : Blk W4.drew (w.heap.size + 2) 138 #[.int .i64 0, .int .i64 0, .int .i64 0, .slice none 0 0, .int .i64 0, .int .i64 0, .int .i64 0, .bool false] := ZB.out
  have dg : Blk W4.drew g 2 #[.int .i64 x0, .int .i64 x1, .int .i64 x2] := G.out
  have dg2 : Blk W4.drew g' 2 #[.int .i64 z0, .int .i64 z1, .int .i64 z2] := G2.out
  have dw := hid (fun z => (show OwnN (w.heap.size + 3) W4.drew _ _ _ from OW.out z))
  have db : Below w.heap.size w W4.drew := B.out.drew
  clear X Y ZB B s OW G G2
  refine wp_region_held_drew (S := fun W => Blk W w.heap.size 102 #[.slice a n c, .int .i64 P4, .int .i64 F4] ∧ Blk W g 2 #[.int .i64 x0, .int .i64 x1, .int .i64 x2] ∧ Blk W g' 2 #[.int .i64 z0, .int .i64 z1, .int .i64 z2]) (by kernel_rfl) ⟨dr, dg, dg2⟩ (fun hHeld => ?_)
  generalize W4.drew = WD at *
  refine wpAnyH_take (i := 0) (v := .agg #[.slice a n c, .int .i64 P4, .int .i64 F4]) rfl (by kernel_rfl) (by kernel_rfl) (by kernel_rfl) (fun _ _ _ h => h) (yieldsIf_load_mid (by rfl) 102 (.tmp 1) rfl w.heap.size 0 rfl (#[.slice a n c, .int .i64 P4, .int .i64 F4] : Array Value).toList _ (fun W hW => hW.1.range) Try.underlying102 rfl sizeRead) (by assumption) ?_
  (try simp only [Act.put, List.getElem_toArray, List.getElem_cons_succ, List.getElem_cons_zero, List.setIfInBounds_toArray, List.set_cons_zero, List.set_cons_succ])
  refine wpAnyH_take (i := 1) (v := .slice (some ⟨g, 0, none⟩) 3 3) rfl (by kernel_rfl) (by kernel_rfl) (by kernel_rfl) (fun _ _ _ h => h) (Or.inl ⟨by rfl, ?_⟩) (by assumption) ?_
  · (intro w hSw; (try dsimp only at hSw); obtain ⟨hr, hg, hg2⟩ := hSw;  go_simp)
  (try simp only [Act.put, List.getElem_toArray, List.getElem_cons_succ, List.getElem_cons_zero, List.setIfInBounds_toArray, List.set_cons_zero, List.set_cons_succ])
  refine wpAnyH_take (i := 2) (v := .pointer (some ⟨g, 0, none⟩)) rfl (by kernel_rfl) (by kernel_rfl) (by kernel_rfl) (fun _ _ _ h => h) (Or.inl ⟨by rfl, ?_⟩) (by assumption) ?_
  · (intro w hSw; (try dsimp only at hSw); obtain ⟨hr, hg, hg2⟩ := hSw;  go_simp)
  (try simp only [Act.put, List.getElem_toArray, List.getElem_cons_succ, List.getElem_cons_zero, List.setIfInBounds_toArray, List.set_cons_zero, List.set_cons_succ])
  refine wpAnyH_take (i := 3) (v := .int .i64 x0) rfl (by kernel_rfl) (by kernel_rfl) (by kernel_rfl) (fun _ _ _ h => h) (Or.inl ⟨by rfl, ?_⟩) (by assumption) ?_
  · (intro w hSw; (try dsimp only at hSw); obtain ⟨hr, hg, hg2⟩ := hSw; have hc := hg.cellAt 0 _ rfl; go_simp)
  (try simp only [Act.put, List.getElem_toArray, List.getElem_cons_succ, List.getElem_cons_zero, List.setIfInBounds_toArray, List.set_cons_zero, List.set_cons_succ])
  refine wpAnyH_take (i := 4) (v := .slice (some ⟨g, 0, none⟩) 3 3) rfl (by kernel_rfl) (by kernel_rfl) (by kernel_rfl) (fun _ _ _ h => h) (Or.inl ⟨by rfl, ?_⟩) (by assumption) ?_
  · (intro w hSw; (try dsimp only at hSw); obtain ⟨hr, hg, hg2⟩ := hSw;  go_simp)
  (try simp only [Act.put, List.getElem_toArray, List.getElem_cons_succ, List.getElem_cons_zero, List.setIfInBounds_toArray, List.set_cons_zero, List.set_cons_succ])
  refine wpAnyH_take (i := 5) (v := .pointer (some ⟨g, 1, none⟩)) rfl (by kernel_rfl) (by kernel_rfl) (by kernel_rfl) (fun _ _ _ h => h) (Or.inl ⟨by rfl, ?_⟩) (by assumption) ?_
  · (intro w hSw; (try dsimp only at hSw); obtain ⟨hr, hg, hg2⟩ := hSw;  go_simp)
  (try simp only [Act.put, List.getElem_toArray, List.getElem_cons_succ, List.getElem_cons_zero, List.setIfInBounds_toArray, List.set_cons_zero, List.set_cons_succ])
  refine wpAnyH_take (i := 6) (v := .int .i64 x1) rfl (by kernel_rfl) (by kernel_rfl) (by kernel_rfl) (fun _ _ _ h => h) (Or.inl ⟨by rfl, ?_⟩) (by assumption) ?_
  · (intro w hSw; (try dsimp only at hSw); obtain ⟨hr, hg, hg2⟩ := hSw; have hc := hg.cellAt 1 _ rfl; go_simp)
  (try simp only [Act.put, List.getElem_toArray, List.getElem_cons_succ, List.getElem_cons_zero, List.setIfInBounds_toArray, List.set_cons_zero, List.set_cons_succ])
  refine wpAnyH_take (i := 7) (v := .slice (some ⟨g, 0, none⟩) 3 3) rfl (by kernel_rfl) (by kernel_rfl) (by kernel_rfl) (fun _ _ _ h => h) (Or.inl ⟨by rfl, ?_⟩) (by assumption) ?_
  · (intro w hSw; (try dsimp only at hSw); obtain ⟨hr, hg, hg2⟩ := hSw;  go_simp)
  (try simp only [Act.put, List.getElem_toArray, List.getElem_cons_succ, List.getElem_cons_zero, List.setIfInBounds_toArray, List.set_cons_zero, List.set_cons_succ])
  refine wpAnyH_take (i := 8) (v := .pointer (some ⟨g, 2, none⟩)) rfl (by kernel_rfl) (by kernel_rfl) (by kernel_rfl) (fun _ _ _ h => h) (Or.inl ⟨by rfl, ?_⟩) (by assumption) ?_
  · (intro w hSw; (try dsimp only at hSw); obtain ⟨hr, hg, hg2⟩ := hSw;  go_simp)
  (try simp only [Act.put, List.getElem_toArray, List.getElem_cons_succ, List.getElem_cons_zero, List.setIfInBounds_toArray, List.set_cons_zero, List.set_cons_succ])
  refine wpAnyH_take (i := 9) (v := .int .i64 x2) rfl (by kernel_rfl) (by kernel_rfl) (by kernel_rfl) (fun _ _ _ h => h) (Or.inl ⟨by rfl, ?_⟩) (by assumption) ?_
  · (intro w hSw; (try dsimp only at hSw); obtain ⟨hr, hg, hg2⟩ := hSw; have hc := hg.cellAt 2 _ rfl; go_simp)
  (try simp only [Act.put, List.getElem_toArray, List.getElem_cons_succ, List.getElem_cons_zero, List.setIfInBounds_toArray, List.set_cons_zero, List.set_cons_succ])
  refine wpAnyH_take (i := 10) (v := .slice va vn vc) rfl (by kernel_rfl) (by kernel_rfl) (by kernel_rfl) (fun _ _ _ h => h) (Or.inl ⟨by rfl, ?_⟩) (by assumption) ?_
  · (intro w hSw; (try dsimp only at hSw); obtain ⟨hr, hg, hg2⟩ := hSw;  go_simp)
  (try simp only [Act.put, List.getElem_toArray, List.getElem_cons_succ, List.getElem_cons_zero, List.setIfInBounds_toArray, List.set_cons_zero, List.set_cons_succ])
  refine wpAnyH_take (i := 11) (v := .slice (some ⟨g', 0, none⟩) 3 3) rfl (by kernel_rfl) (by kernel_rfl) (by kernel_rfl) (fun _ _ _ h => h) (Or.inl ⟨by rfl, ?_⟩) (by assumption) ?_
  · (intro w hSw; (try dsimp only at hSw); obtain ⟨hr, hg, hg2⟩ := hSw;  go_simp)
  (try simp only [Act.put, List.getElem_toArray, List.getElem_cons_succ, List.getElem_cons_zero, List.setIfInBounds_toArray, List.set_cons_zero, List.set_cons_succ])
  refine wpAnyH_take (i := 12) (v := .pointer (some ⟨g', 0, none⟩)) rfl (by kernel_rfl) (by kernel_rfl) (by kernel_rfl) (fun _ _ _ h => h) (Or.inl ⟨by rfl, ?_⟩) (by assumption) ?_
  · (intro w hSw; (try dsimp only at hSw); obtain ⟨hr, hg, hg2⟩ := hSw;  go_simp)
  (try simp only [Act.put, List.getElem_toArray, List.getElem_cons_succ, List.getElem_cons_zero, List.setIfInBounds_toArray, List.set_cons_zero, List.set_cons_succ])
  refine wpAnyH_take (i := 13) (v := .int .i64 z0) rfl (by kernel_rfl) (by kernel_rfl) (by kernel_rfl) (fun _ _ _ h => h) (Or.inl ⟨by rfl, ?_⟩) (by assumption) ?_
  · (intro w hSw; (try dsimp only at hSw); obtain ⟨hr, hg, hg2⟩ := hSw; have hc := hg2.cellAt 0 _ rfl; go_simp)
  (try simp only [Act.put, List.getElem_toArray, List.getElem_cons_succ, List.getElem_cons_zero, List.setIfInBounds_toArray, List.set_cons_zero, List.set_cons_succ])
  refine wpAnyH_take (i := 14) (v := .slice (some ⟨g', 0, none⟩) 3 3) rfl (by kernel_rfl) (by kernel_rfl) (by kernel_rfl) (fun _ _ _ h => h) (Or.inl ⟨by rfl, ?_⟩) (by assumption) ?_
  · (intro w hSw; (try dsimp only at hSw); obtain ⟨hr, hg, hg2⟩ := hSw;  go_simp)
  (try simp only [Act.put, List.getElem_toArray, List.getElem_cons_succ, List.getElem_cons_zero, List.setIfInBounds_toArray, List.set_cons_zero, List.set_cons_succ])
  refine wpAnyH_take (i := 15) (v := .pointer (some ⟨g', 1, none⟩)) rfl (by kernel_rfl) (by kernel_rfl) (by kernel_rfl) (fun _ _ _ h => h) (Or.inl ⟨by rfl, ?_⟩) (by assumption) ?_
  · (intro w hSw; (try dsimp only at hSw); obtain ⟨hr, hg, hg2⟩ := hSw;  go_simp)
  (try simp only [Act.put, List.getElem_toArray, List.getElem_cons_succ, List.getElem_cons_zero, List.setIfInBounds_toArray, List.set_cons_zero, List.set_cons_succ])
  refine wpAnyH_take (i := 16) (v := .int .i64 z1) rfl (by kernel_rfl) (by kernel_rfl) (by kernel_rfl) (fun _ _ _ h => h) (Or.inl ⟨by rfl, ?_⟩) (by assumption) ?_
  · (intro w hSw; (try dsimp only at hSw); obtain ⟨hr, hg, hg2⟩ := hSw; have hc := hg2.cellAt 1 _ rfl; go_simp)
  (try simp only [Act.put, List.getElem_toArray, List.getElem_cons_succ, List.getElem_cons_zero, List.setIfInBounds_toArray, List.set_cons_zero, List.set_cons_succ])
  refine wpAnyH_take (i := 17) (v := .slice (some ⟨g', 0, none⟩) 3 3) rfl (by kernel_rfl) (by kernel_rfl) (by kernel_rfl) (fun _ _ _ h => h) (Or.inl ⟨by rfl, ?_⟩) (by assumption) ?_
  · (intro w hSw; (try dsimp only at hSw); obtain ⟨hr, hg, hg2⟩ := hSw;  go_simp)
  (try simp only [Act.put, List.getElem_toArray, List.getElem_cons_succ, List.getElem_cons_zero, List.setIfInBounds_toArray, List.set_cons_zero, List.set_cons_succ])
  refine wpAnyH_take (i := 18) (v := .pointer (some ⟨g', 2, none⟩)) rfl (by kernel_rfl) (by kernel_rfl) (by kernel_rfl) (fun _ _ _ h => h) (Or.inl ⟨by rfl, ?_⟩) (by assumption) ?_
  · (intro w hSw; (try dsimp only at hSw); obtain ⟨hr, hg, hg2⟩ := hSw;  go_simp)
  (try simp only [Act.put, List.getElem_toArray, List.getElem_cons_succ, List.getElem_cons_zero, List.setIfInBounds_toArray, List.set_cons_zero, List.set_cons_succ])
  refine wpAnyH_take (i := 19) (v := .int .i64 z2) rfl (by kernel_rfl) (by kernel_rfl) (by kernel_rfl) (fun _ _ _ h => h) (Or.inl ⟨by rfl, ?_⟩) (by assumption) ?_
  · (intro w hSw; (try dsimp only at hSw); obtain ⟨hr, hg, hg2⟩ := hSw; have hc := hg2.cellAt 2 _ rfl; go_simp)
  (try simp only [Act.put, List.getElem_toArray, List.getElem_cons_succ, List.getElem_cons_zero, List.setIfInBounds_toArray, List.set_cons_zero, List.set_cons_succ])
  refine wpAnyH_take (i := 20) (v := .int .i64 u4) rfl (by kernel_rfl) (by kernel_rfl) (by kernel_rfl) (fun _ _ _ h => h) (Or.inl ⟨by rfl, ?_⟩) (by assumption) ?_
  · (intro w hSw; (try dsimp only at hSw); obtain ⟨hr, hg, hg2⟩ := hSw;  go_simp)
  (try simp only [Act.put, List.getElem_toArray, List.getElem_cons_succ, List.getElem_cons_zero, List.setIfInBounds_toArray, List.set_cons_zero, List.set_cons_succ])
  refine wpAnyH_take (i := 21) (v := .bool (u4 == 1)) rfl (by kernel_rfl) (by kernel_rfl) (by kernel_rfl) (fun _ _ _ h => h) (Or.inl ⟨by rfl, ?_⟩) (by assumption) ?_
  · (intro w hSw; (try dsimp only at hSw); obtain ⟨hr, hg, hg2⟩ := hSw;  go_simp)
  (try simp only [Act.put, List.getElem_toArray, List.getElem_cons_succ, List.getElem_cons_zero, List.setIfInBounds_toArray, List.set_cons_zero, List.set_cons_succ])
  refine wpAnyH_take (i := 22) (v := .agg #[.int .i64 x0, .int .i64 x1, .int .i64 x2, .slice va vn vc, .int .i64 z0, .int .i64 z1, .int .i64 z2, .bool (u4 == 1)]) rfl (by kernel_rfl) (by kernel_rfl) (by kernel_rfl) (fun _ _ _ h => h) (yieldsIf_build (by rfl) _ _ rfl #[.int .i64 x0, .int .i64 x1, .int .i64 x2, .slice va vn vc, .int .i64 z0, .int .i64 z1, .int .i64 z2, .bool (u4 == 1)] (by kernel_rfl)) (by assumption) ?_
  (try simp only [Act.put, List.getElem_toArray, List.getElem_cons_succ, List.getElem_cons_zero, List.setIfInBounds_toArray, List.set_cons_zero, List.set_cons_succ])
  refine wpAnyH_ready (rs := [23]) (by kernel_rfl) (by simp) ?_
  refine AllReadyH.cons rfl (fun K hK => ?_) AllReadyH.nil
  refine storeRow_step rfl 102 (.tmp 2) (.tmp 28) rfl (w.heap.size + 1) #[.slice a n c, .int .i64 P4, .int .i64 F4] rfl rfl 102 _ dy sizeRead rfl (by simp [Value.oneCell']) ?_
  refine hK.out _ _ ⟨dr.other (by omega), dg.other (by omega), dg2.other (by omega)⟩ (fun hHeld => ?_)
  clear hK K
  (try simp only [Act.put, List.getElem_toArray, List.getElem_cons_succ, List.getElem_cons_zero, List.setIfInBounds_toArray, List.set_cons_zero, List.set_cons_succ])
  refine wpAnyH_ready (rs := [24]) (by kernel_rfl) (by simp) ?_
  refine AllReadyH.cons rfl (fun K hK => ?_) AllReadyH.nil
  refine storeRow_step rfl 138 (.tmp 3) (.tmp 50) rfl (w.heap.size + 2) #[.int .i64 x0, .int .i64 x1, .int .i64 x2, .slice va vn vc, .int .i64 z0, .int .i64 z1, .int .i64 z2, .bool (u4 == 1)] rfl rfl 138 _ (dz.other (by omega)) sizeLease rfl (by simp [Value.oneCell']) ?_
  refine hK.out _ _ ⟨(dr.other (by omega)).other (by omega), (dg.other (by omega)).other (by omega), (dg2.other (by omega)).other (by omega)⟩ (fun hHeld => ?_)
  clear hK K
  (try simp only [Act.put, List.getElem_toArray, List.getElem_cons_succ, List.getElem_cons_zero, List.setIfInBounds_toArray, List.set_cons_zero, List.set_cons_succ])
  refine wpAnyH_done (by kernel_rfl) ?_ _
  clear hHeld
  go_wp2_with fail
  refine bodyPost_ret (results_cells2 rfl rfl rfl (((dy.row _).other (by omega)).loadVar Try.underlying102 rfl sizeRead) (((dz.other (by omega)).row #[.int .i64 x0, .int .i64 x1, .int .i64 x2, .slice va vn vc, .int .i64 z0, .int .i64 z1, .int .i64 z2, .bool (u4 == 1)]).loadVar Try.underlying138 rfl sizeLease)) rfl ?_
  rw [EQ.out]
  refine ⟨⟨x0, x1, x2, va, vn, vc, z0, z1, z2, (u4 == 1), LL⟩, rfl, fun h => ?_, setRow_below (setRow_below db (by omega)) (by omega)⟩
  have hf := EE.out h
  have e := hve.out hf
  subst e
  exact ⟨⟨rfl, rfl, rfl, rfl, rfl, rfl, rfl, rfl, rfl⟩, (((dw.out hf).row (by omega) _).row (by omega) _).weaken (by omega)⟩
end Go.Proofs.Ythkbddnkcljjpaa

namespace Go.Proofs.Ythkbddnkcljjpaa
open Go.RowKit Go.Deep Go.Maps
set_option linter.unusedVariables false
set_option linter.unusedSimpArgs false
theorem OwnE.rowN {α : Type} {e : TypeId} {k q : Nat} {enc : α → List Value} {base n : Nat} {l : List α} {v : Value} {w : World} (h : OwnE e k enc base w v n l) (cs : Array Value) (h1 : ∀ g, v.ownBlock = some g → g ≠ q) : OwnE e k enc base (w.setRow q cs) v n l := by
  obtain ⟨h0, h3, h4⟩ := h
  refine ⟨h0, h3, ?_⟩
  rcases h4 with h4 | ⟨g, cap, cur, hv, hg, hh, r⟩
  · exact .inl h4
  · exact .inr ⟨g, cap, cur, hv, hg, (setRow_other w q g cs (h1 g (by rw [hv]; rfl))).trans hh, r⟩
set_option maxRecDepth 100000 in
set_option maxHeartbeats 8000000 in
theorem dsome_any (a : Option Addr) (n c : Nat) (l : List Int) (A E : Int) (w : World) (hl : HoldsB w a n c l) (h0 : 0 ≤ A) (h1 : A ≤ n) :
    Calls Try.prog 61 #[.agg #[.slice a n c, .int .i64 A, .int .i64 E]] w fun e w' => ∃ v, e = .returned (.tuple #[.agg #[.slice a n c, .int .i64 (liF (rdL l) l A E).1, .int .i64 (liF (rdL l) l A E).2], v]) ∧ ((liF (rdL l) l A E).2 = 0 → ∃ ys, OwnE 138 8 Le.cs w.heap.size w' v (liC (rdL l) l A E) ys ∧ (∀ j (g : j < ys.length), LeSame (liV (rdL l) l A E j) ys[j]) ∧ ∀ y ∈ ys, OwnN w.heap.size w' (.slice y.sa y.sl y.sc) y.sl y.co) ∧ ((liF (rdL l) l A E).2 ≠ 0 → v = .slice none 0 0) ∧ Below w.heap.size w w' := by
  have HL := hid hl
  have hlen := hl.1
  have hnm := hl.2.1
  have hbb := hl.2.2.2.2.1
  have CB := hid (upT_bd l A E 1024 3 hbb (by omega))
  have AT := hid (upT_at l A E 1024 3 h0 (by omega))
  have AS := hid (fun k => lsS_at (pe := rdL l) (n := n) (E := (upT l A E 1024 3).2.2) (fun A E h0 h1 => by have := rdL_at l A E h0 (by omega); omega) AT.out.1 (by have := AT.out.2; omega) k)
  have NN : Hid (liC (rdL l) l A E = lsN (rdL l) (upT l A E 1024 3).2.1 (upT l A E 1024 3).2.2 (upT l A E 1024 3).1.toNat 0) := rfl
  have FF : Hid (liF (rdL l) l A E = if liC (rdL l) l A E < (upT l A E 1024 3).1.toNat then lsS (rdL l) (upT l A E 1024 3).2.1 (upT l A E 1024 3).2.2 (liC (rdL l) l A E + 1) else lsS (rdL l) (upT l A E 1024 3).2.1 (upT l A E 1024 3).2.2 (liC (rdL l) l A E)) := rfl
  have PV : Hid (∀ k, liV (rdL l) l A E k = lsV (rdL l) (upT l A E 1024 3).2.1 (upT l A E 1024 3).2.2 k) := fun k => rfl
  have TOT := hid (fun W (H : HoldsB W a n c l) => dtotal_any a n c l A E W H ⟨by omega, by omega⟩)
  clear hl
  generalize hli : liC (rdL l) l A E = N at *
  generalize liF (rdL l) l A E = FN at *
  generalize hup : upT l A E 1024 3 = U at *
  obtain ⟨cc, A0, E0⟩ := U
  simp only at CB AT AS NN FF PV TOT
  obtain ⟨C, rfl⟩ : ∃ C : Nat, cc = (C : Int) := ⟨cc.toNat, by have := CB.out.1; omega⟩
  have hC : C ≤ 1024 := by have := CB.out.2; omega
  have NL := hid (lsN_le (rdL l) A0 E0 C 0)
  have NY := hid (lsN_yes (rdL l) A0 E0 C 0)
  have NO := hid (lsN_no (rdL l) A0 E0 C 0)
  have FE0 : Hid (C = 0 → FN = (A0, E0)) := fun h => by
    subst h
    rw [FF.out, if_neg (by simp), NN.out]; rfl
  simp only [Int.toNat_natCast] at NN FF
  rw [← NN.out] at NL NY NO
  have hNC : N ≤ C := by have := NL.out.2; omega
  clear NN CB AT hup hli NL
  go_enter Try.func61, Try.ntmps61
  go_upto_region 1 with fail
  have B0 := hid (((Below.refl w.heap.size w).alloc (Nat.le_refl _) (.cells #[.slice a n c, .int .i64 A, .int .i64 E] 102)).alloc (by simp) (.cells #[.slice none 0 0, .int .i64 0, .int .i64 0] 102))
  have X0 := hid ((Blk.alloc w #[.slice a n c, .int .i64 A, .int .i64 E] (102)).below ((Below.refl _ _).alloc (Nat.le_refl _) (.cells #[.slice none 0 0, .int .i64 0, .int .i64 0] 102)))
  have Y0 := hid (Blk.alloc (w.alloc (.cells #[.slice a n c, .int .i64 A, .int .i64 E] 102)) #[.slice none 0 0, .int .i64 0, .int .i64 0] (102))
  have s0 : Hid (w.heap.size + 2 ≤ ((w.alloc (.cells #[.slice a n c, .int .i64 A, .int .i64 E] 102)).alloc (.cells #[.slice none 0 0, .int .i64 0, .int .i64 0] 102)).heap.size) := by unfold Hid; simp
  generalize ((w.alloc (.cells #[.slice a n c, .int .i64 A, .int .i64 E] 102)).alloc (.cells #[.slice none 0 0, .int .i64 0, .int .i64 0] 102)) = W0 at *
  rw [World.size_alloc] at Y0
  have LD := X0.out.loadAt Try.underlying102 rfl sizeRead
  have C0 := hid (TOT.out W0 (HL.out.below B0.out))
  go_wp2_with (refine wpList_load_at 102 rfl (.tmp 1) rfl _ _ rfl _ LD ?_)
  with_reducible refine C0.out.mono ?_
  rintro e w1 ⟨rfl, b1⟩
  have X1 := hid (X0.out.below b1)
  have Y1 := hid ((Y0.out.below b1).other (ds := #[.slice a n c, .int .i64 A0, .int .i64 E0]) (show w.heap.size + 1 ≠ w.heap.size by omega))
  have BX := X1.out
  unfold Blk at BX
  have XR := hid (X1.out.row #[.slice a n c, .int .i64 A0, .int .i64 E0])
  have BR := hid (setRow_below (q := w.heap.size) (cs := #[.slice a n c, .int .i64 A0, .int .i64 E0]) (B0.out.trans (b1.mono B0.out.size)) (Nat.le_refl _))
  have s1 : Hid (w.heap.size + 2 ≤ (w1.setRow w.heap.size #[.slice a n c, .int .i64 A0, .int .i64 E0]).heap.size) := by unfold Hid; have := s0.out; have := b1.size; simp; omega
  clear C0 LD X0 Y0 B0 b1 s0 TOT X1
  go_upto_region 4 with (refine wpList_store_row rfl 102 (.tmp 1) (.tmp 10) rfl w.heap.size #[.slice a n c, .int .i64 A0, .int .i64 E0] rfl rfl 102 _ BX sizeRead rfl (by simp [Value.oneCell']) ?_)
  clear BX
  generalize w1.setRow w.heap.size #[.slice a n c, .int .i64 A0, .int .i64 E0] = W2 at *
  go_loopw [5, 13] (fun v i wr => ∃ k : Nat, k ≤ N ∧ i = .int .i64 (k : Int) ∧ ∃ ys, Hid (OwnE 138 8 Le.cs (w.heap.size + 2) wr v k ys) ∧ Hid (∀ j (g : j < ys.length), LeSame (liV (rdL l) l A E j) ys[j]) ∧ Hid (∀ y ∈ ys, OwnN (w.heap.size + 2) wr (.slice y.sa y.sl y.sc) y.sl y.co) ∧ Hid (Blk wr w.heap.size 102 #[.slice a n c, .int .i64 (lsS (rdL l) A0 E0 k).1, .int .i64 (lsS (rdL l) A0 E0 k).2]) ∧ Hid (Blk wr (w.heap.size + 1) 102 #[.slice none 0 0, .int .i64 0, .int .i64 0]) ∧ Hid (Below w.heap.size w wr) ∧ Hid (w.heap.size + 2 ≤ wr.heap.size) ∧ Hid (0 < k → (lsS (rdL l) A0 E0 k).2 = 0) ∧ Hid (k = 0 → v = .slice none 0 0)) (fun _ i _ => N + 1 - (intOf i).toNat)
  case atStart => exact ⟨0, by omega, rfl, [], OwnE.nil _ _ _ _ _, (fun j g => absurd g (by simp)), (fun y hy => by cases hy), XR, Y1, BR, s1, fun h => absurd h (by omega), fun _ => rfl⟩
  case round =>
    clear XR Y1 BR s1
    obtain ⟨k, hk', rfl, ys, hO, hS, hM, hX, hY, hB, hs, hz, hv⟩ := hrel
    have LD := hX.out.loadAt Try.underlying102 rfl sizeRead
    have ka : (0 : Int) ≤ (k : Int) := by omega
    by_cases hlt : k < C
    · have kb : (k : Int) < (C : Int) := by omega
      have C1 := hid (fun W (H : HoldsB W a n c l) => dalease_any a n c l (lsS (rdL l) A0 E0 k).1 (lsS (rdL l) A0 E0 k).2 W H (AS.out k).1 (AS.out k).2)
      have EV : Hid (lsV (rdL l) A0 E0 k = (rdL l (lsS (rdL l) A0 E0 k).1 (lsS (rdL l) A0 E0 k).2).1) := rfl
      have ES : Hid (lsS (rdL l) A0 E0 (k + 1) = (rdL l (lsS (rdL l) A0 E0 k).1 (lsS (rdL l) A0 E0 k).2).2) := rfl
      generalize rdL l (lsS (rdL l) A0 E0 k).1 (lsS (rdL l) A0 E0 k).2 = ZZ at *
      obtain ⟨z, A1, E1⟩ := ZZ
      simp only at C1 EV ES
      generalize (lsS (rdL l) A0 E0 k).1 = Ak at *
      generalize (lsS (rdL l) A0 E0 k).2 = Ek at *
      go_upto_region 6 with fail
      have ba := (Below.refl wr.heap.size wr).alloc (Nat.le_refl _) (.cells #[.int .i64 0, .int .i64 0, .int .i64 0, .slice none 0 0, .int .i64 0, .int .i64 0, .int .i64 0, .bool false] 138)
      have XA := hid (hX.out.below ba)
      have YA := hid (hY.out.below ba)
      have ZA := hid (Blk.alloc wr #[.int .i64 0, .int .i64 0, .int .i64 0, .slice none 0 0, .int .i64 0, .int .i64 0, .int .i64 0, .bool false] (138))
      have OA := hid (hO.out.below ba)
      have MA := hid (fun y hy => (hM.out y hy).below ba)
      have QO := hid (fun g e => (hO.out.lt g e).2)
      have QM := hid (fun y hy g e => ((hM.out y hy).lt g e).2)
      have BA := hid (hB.out.trans (ba.mono hB.out.size))
      have hsz := hs.out
      have sA : Hid (wr.heap.size + 1 ≤ (wr.alloc (.cells #[.int .i64 0, .int .i64 0, .int .i64 0, .slice none 0 0, .int .i64 0, .int .i64 0, .int .i64 0, .bool false] 138)).heap.size) := by unfold Hid; simp
      clear hX hY hO hM hB hs ba LD
      generalize wr.alloc (.cells #[.int .i64 0, .int .i64 0, .int .i64 0, .slice none 0 0, .int .i64 0, .int .i64 0, .int .i64 0, .bool false] 138) = wA at *
      generalize wr.heap.size = Q6 at *
      have LD := XA.out.loadAt Try.underlying102 rfl sizeRead
      have CC := hid (C1.out wA (HL.out.below BA.out))
      go_wp2_with (refine wpList_load_at 102 rfl (.tmp 1) rfl _ _ rfl _ LD ?_)
      with_reducible refine CC.out.mono ?_
      rintro e w2 ⟨y, rfl, hgood, b2⟩
      obtain ⟨x0, x1, x2, sa, sl, sc, x4, x5, x6, x7, co⟩ := y
      have HG := hid hgood
      clear hgood
      have hq6 : w.heap.size + 2 ≤ Q6 := hsz
      have X2 := hid (XA.out.below b2)
      have BX := X2.out
      unfold Blk at BX
      have B6 := (ZA.out.below b2).other (q := w.heap.size) (ds := #[.slice a n c, .int .i64 A1, .int .i64 E1]) (by omega)
      unfold Blk at B6
      have X3 := hid ((X2.out.row #[.slice a n c, .int .i64 A1, .int .i64 E1]).other (q := Q6) (ds := #[.int .i64 x0, .int .i64 x1, .int .i64 x2, .slice sa sl sc, .int .i64 x4, .int .i64 x5, .int .i64 x6, .bool x7]) (by omega))
      have Y3 := hid (((YA.out.below b2).other (q := w.heap.size) (ds := #[.slice a n c, .int .i64 A1, .int .i64 E1]) (by omega)).other (q := Q6) (ds := #[.int .i64 x0, .int .i64 x1, .int .i64 x2, .slice sa sl sc, .int .i64 x4, .int .i64 x5, .int .i64 x6, .bool x7]) (by omega))
      have L3 := hid (((ZA.out.below b2).other (q := w.heap.size) (ds := #[.slice a n c, .int .i64 A1, .int .i64 E1]) (by omega)).row #[.int .i64 x0, .int .i64 x1, .int .i64 x2, .slice sa sl sc, .int .i64 x4, .int .i64 x5, .int .i64 x6, .bool x7])
      have O3 := hid (((OA.out.below b2).row (q := w.heap.size) (by omega) #[.slice a n c, .int .i64 A1, .int .i64 E1]).rowN (q := Q6) #[.int .i64 x0, .int .i64 x1, .int .i64 x2, .slice sa sl sc, .int .i64 x4, .int .i64 x5, .int .i64 x6, .bool x7] (fun g e => by have := QO.out g e; omega))
      have M3 := hid (fun y hy => (((MA.out y hy).below b2).row (q := w.heap.size) (by omega) #[.slice a n c, .int .i64 A1, .int .i64 E1]).rowN (q := Q6) #[.int .i64 x0, .int .i64 x1, .int .i64 x2, .slice sa sl sc, .int .i64 x4, .int .i64 x5, .int .i64 x6, .bool x7] (fun g e => by have := QM.out y hy g e; omega))
      have N3 := hid (fun (h : E1 = 0) => ((((HG.out h).2.row (q := w.heap.size) (by have := sA.out; omega) #[.slice a n c, .int .i64 A1, .int .i64 E1]).rowN (q := Q6) #[.int .i64 x0, .int .i64 x1, .int .i64 x2, .slice sa sl sc, .int .i64 x4, .int .i64 x5, .int .i64 x6, .bool x7] (fun g e => by have := ((HG.out h).2.lt g e).1; have := sA.out; omega)).weaken (b' := w.heap.size + 2) (by have := sA.out; omega)))
      have B3 := hid (setRow_below (q := Q6) (cs := #[.int .i64 x0, .int .i64 x1, .int .i64 x2, .slice sa sl sc, .int .i64 x4, .int .i64 x5, .int .i64 x6, .bool x7]) (setRow_below (q := w.heap.size) (cs := #[.slice a n c, .int .i64 A1, .int .i64 E1]) (BA.out.trans (b2.mono BA.out.size)) (Nat.le_refl _)) (by omega))
      have s3 : Hid (w.heap.size + 2 ≤ ((w2.setRow w.heap.size #[.slice a n c, .int .i64 A1, .int .i64 E1]).setRow Q6 #[.int .i64 x0, .int .i64 x1, .int .i64 x2, .slice sa sl sc, .int .i64 x4, .int .i64 x5, .int .i64 x6, .bool x7]).heap.size) := by unfold Hid; have := sA.out; have := b2.size; simp; omega
      have HG1 := hid (fun h => (HG.out h).1)
      clear C1 CC LD XA YA ZA OA MA BA b2 X2 QO QM sA HG hsz
      go_upto_region 7 with (first | refine wpList_store_row rfl 102 (.tmp 1) (.tmp 18) rfl w.heap.size #[.slice a n c, .int .i64 A1, .int .i64 E1] rfl rfl 102 _ BX sizeRead rfl (by simp [Value.oneCell']) ?_ | refine wpList_store_row rfl 138 (.tmp 6) (.tmp 19) rfl Q6 #[.int .i64 x0, .int .i64 x1, .int .i64 x2, .slice sa sl sc, .int .i64 x4, .int .i64 x5, .int .i64 x6, .bool x7] rfl rfl 138 _ B6 sizeLease rfl (by simp [Value.oneCell']) ?_)
      clear BX B6
      generalize (w2.setRow w.heap.size #[.slice a n c, .int .i64 A1, .int .i64 E1]).setRow Q6 #[.int .i64 x0, .int .i64 x1, .int .i64 x2, .slice sa sl sc, .int .i64 x4, .int .i64 x5, .int .i64 x6, .bool x7] = w3 at *
      have c2 := X3.out.cellAt 2 (.int .i64 E1) rfl
      have LD := X3.out.loadAt Try.underlying102 rfl sizeRead
      have LD6 := L3.out.loadAt Try.underlying138 rfl sizeLease
      have BY := Y3.out
      unfold Blk at BY
      by_cases hE : E1 = 0
      · subst hE
        have NG := hid (N3.out rfl)
        have GG := hid (HG1.out rfl)
        have hN : k < N := by
          apply Classical.byContradiction
          intro h
          have e : N = k := by omega
          have := NO.out (by omega)
          rw [e, ES.out] at this
          exact this rfl
        clear LD BY
        go_wp2_with (first | refine wpList_load_at 138 rfl (.tmp 6) rfl _ _ rfl _ LD6 ?_ | (at_builtin; refine push_ownE 44 138 _ 80 Le.cs_len Le.one Try.underlying44 infoLea rfl (by decide) w3 (⟨x0, x1, x2, sa, sl, sc, x4, x5, x6, x7, co⟩ : Le) rfl (.tmp 24) (.tmp 26) rfl (w.heap.size + 2) k u5 ys #[.int .i64 x0, .int .i64 x1, .int .i64 x2, .slice sa sl sc, .int .i64 x4, .int .i64 x5, .int .i64 x6, .bool x7] rfl rfl O3.out s3.out (by simp [Act.eval]) (by omega) (by omega) ?_))
        intro v4 w4 h4 b4 g4
        have O4 := hid h4
        have S4 : Hid (∀ j (g : j < (ys ++ [(⟨x0, x1, x2, sa, sl, sc, x4, x5, x6, x7, co⟩ : Le)]).length), LeSame (liV (rdL l) l A E j) (ys ++ [(⟨x0, x1, x2, sa, sl, sc, x4, x5, x6, x7, co⟩ : Le)])[j]) := fun j g => by
          by_cases hj : j < ys.length
          · rw [List.getElem_append_left hj]; exact hS.out j hj
          · have hyl := O3.out.len
            have e : j = k := by rw [List.length_append] at g; simp at g; omega
            subst e
            rw [List.getElem_append_right (by omega)]
            simp only [hyl, Nat.sub_self, List.getElem_cons_zero]
            rw [PV.out, EV.out]
            exact GG.out
        have M4 : Hid (∀ y ∈ ys ++ [(⟨x0, x1, x2, sa, sl, sc, x4, x5, x6, x7, co⟩ : Le)], OwnN (w.heap.size + 2) w4 (.slice y.sa y.sl y.sc) y.sl y.co) := fun y hy => by
          rcases List.mem_append.1 hy with hy | hy
          · exact (M3.out y hy).grownN g4 (own_ne (M3.out y hy) O3.out (by decide))
          · simp only [List.mem_singleton] at hy
            subst hy
            exact NG.out.grownN g4 (own_ne NG.out O3.out (by decide))
        have X4 := hid (X3.out.low b4 (by omega))
        have Y4 := hid (Y3.out.low b4 (by omega))
        have B4 := hid (B3.out.trans (b4.mono (by omega)))
        have s4 : Hid (w.heap.size + 2 ≤ w4.heap.size) := by unfold Hid; have := b4.size; have := s3.out; omega
        clear h4 b4 g4 O3 X3 Y3 B3 s3 c2 LD6 L3 M3 N3 HG1 hS NG GG
        go_wp2_with fail
        refine ⟨⟨k + 1, by omega, by go_num, _, O4, S4, M4, by unfold Hid; rw [ES.out]; exact X4.out, Y4, B4, s4, (fun _ => by rw [ES.out]), (fun h => absurd h (by omega))⟩, ?_⟩
        simp [intOf]; omega
      · have tE : (E1 != 0) = true := by simpa using hE
        have hN : N = k := by
          apply Classical.byContradiction
          intro h
          have := NY.out k (by omega) (by omega)
          rw [ES.out] at this
          exact hE this
        have F1 : Hid (FN = (A1, E1)) := by unfold Hid; rw [FF.out, if_pos (by omega), hN, ES.out]
        have HE := hid hE
        clear hE hN O3 LD6 L3 M3 N3 HG1 hS
        go_wp2_with (first | refine wpList_load_at 102 rfl (.tmp 1) rfl _ _ rfl _ LD ?_ | refine wpList_store_row rfl 102 (.tmp 2) (.tmp 23) rfl (w.heap.size + 1) #[.slice a n c, .int .i64 A1, .int .i64 E1] rfl rfl 102 _ BY sizeRead rfl (by simp [Value.oneCell']) ?_)
        refine bodyPost_ret (results_cell2 rfl rfl ((Y3.out.row _).loadVar Try.underlying102 rfl sizeRead)) rfl ?_
        rw [F1.out]
        exact ⟨_, rfl, (fun h => absurd h HE.out), fun _ => rfl, setRow_below B3.out (by omega)⟩
    · have kc : k = C := by omega
      have kn : N = k := by omega
      subst kn
      have kb : ¬ ((N : Int) < (C : Int)) := by omega
      have F1 : Hid (FN = lsS (rdL l) A0 E0 N) := by unfold Hid; rw [FF.out, if_neg (by omega)]
      have BY := hY.out
      unfold Blk at BY
      generalize lsS (rdL l) A0 E0 N = SN at *
      subst kc
      go_wp2_with (first | refine wpList_load_at 102 rfl (.tmp 1) rfl _ _ rfl _ LD ?_ | refine wpList_store_row rfl 102 (.tmp 2) (.tmp 29) rfl (w.heap.size + 1) #[.slice a n c, .int .i64 SN.1, .int .i64 SN.2] rfl rfl 102 _ BY sizeRead rfl (by simp [Value.oneCell']) ?_)
      refine bodyPost_ret (results_cell2 rfl rfl ((hY.out.row _).loadVar Try.underlying102 rfl sizeRead)) rfl ?_
      rw [F1.out]
      refine ⟨_, rfl, fun _ => ⟨ys, (hO.out.row (by omega) _).weaken (by omega), hS.out, fun y hy => ((hM.out y hy).row (by omega) _).weaken (by omega)⟩, fun h => ?_, setRow_below hB.out (by omega)⟩
      by_cases h0 : N = 0
      · exact hv.out h0
      · exact absurd (hz.out (by omega)) h
end Go.Proofs.Ythkbddnkcljjpaa

namespace Go.Proofs.Ythkbddnkcljjpaa
open Go.RowKit Go.Deep Go.Maps
set_option linter.unusedVariables false
set_option linter.unusedSimpArgs false
theorem liF_err {α : Type} {pe : Int → Int → α × Int × Int} {l : List Int} {A E : Int} (h : (liF pe l A E).2 = 0) : E = 0 := by
  by_cases e : E = 0
  · exact e
  · exfalso
    have hu : upT l A E 1024 3 = (0, A, E) := by unfold upT; rw [if_neg e]
    unfold liF lsF lsC at h
    rw [hu] at h
    simp [lsN, lsS] at h
    exact e h
theorem endT_err {n : Nat} {A E : Int} (h : (endT n A E).2 = 0) : E = 0 := by
  by_cases e : E = 0
  · exact e
  · unfold endT at h; rw [if_neg e] at h; exact h
theorem endT_zero {n : Nat} {A E : Int} (h : (endT n A E).2 = 0) : endT n A E = (0, 0) := by
  have e := endT_err h
  subst e
  unfold endT at h ⊢
  rw [if_pos rfl] at h ⊢
  split
  · rename_i h1; rw [if_pos h1] at h; simp at h
  · rfl
set_option maxRecDepth 100000 in
set_option maxHeartbeats 8000000 in
theorem ddocanswer_any (a : Option Addr) (n c : Nat) (l : List Int) (w : World) (hl : HoldsB w a n c l) :
    Calls Try.prog 25 #[.slice a n c] w fun e w' => ∃ cs, e = .returned (.tuple #[.agg cs, .int .i64 (endT n (anE l 0 0).1 (anE l 0 0).2).1, .int .i64 (endT n (anE l 0 0).1 (anE l 0 0).2).2]) ∧ ((endT n (anE l 0 0).1 (anE l 0 0).2).2 ≠ 0 → cs = #[.int .i64 0, .int .i64 0, .int .i64 0, .slice none 0 0, .slice none 0 0]) ∧ ((endT n (anE l 0 0).1 (anE l 0 0).2).2 = 0 → AnO l 0 0 w.heap.size w' cs) ∧ Below w.heap.size w w' := by
  have HL := hid hl
  have hlen := hl.1
  have hnm := hl.2.1
  clear hl
  have a3 := lsS_at (pe := tkI l) (n := n) (A := 0) (E := 0) (fun A E h0 h1 => by have := tkI_at l A E h0 (by omega); omega) (by omega) (by omega) 3
  have aB := liF_at (pe := tkI l) (l := l) (E := (lsS (tkI l) 0 0 3).2) (fun A E h0 h1 => tkI_at l A E h0 h1) a3.1 (by omega)
  have N1 := hid (fun W (H : HoldsB W a n c l) => dnums3_any a n c l 0 0 W H (by omega) (by omega))
  have N2 := hid (fun W (H : HoldsB W a n c l) => dlist_any a n c l (lsS (tkI l) 0 0 3).1 (lsS (tkI l) 0 0 3).2 W H a3.1 a3.2)
  have N3 := hid (fun W (H : HoldsB W a n c l) => dsome_any a n c l (liF (tkI l) l (lsS (tkI l) 0 0 3).1 (lsS (tkI l) 0 0 3).2).1 (liF (tkI l) l (lsS (tkI l) 0 0 3).1 (lsS (tkI l) 0 0 3).2).2 W H aB.1 (by omega))
  have EA : Hid (anE l 0 0 = liF (rdL l) l (liF (tkI l) l (lsS (tkI l) 0 0 3).1 (lsS (tkI l) 0 0 3).2).1 (liF (tkI l) l (lsS (tkI l) 0 0 3).1 (lsS (tkI l) 0 0 3).2).2) := by unfold Hid anE anB; simp only [tkc_ls]
  have E2 := hid (fun h => liF_err (pe := rdL l) (l := l) (A := (liF (tkI l) l (lsS (tkI l) 0 0 3).1 (lsS (tkI l) 0 0 3).2).1) (E := (liF (tkI l) l (lsS (tkI l) 0 0 3).1 (lsS (tkI l) 0 0 3).2).2) h)
  have FIN : Hid (∀ (base : Nat) (W : World) (vI vL : Value) (yL : List Le), OwnN base W vI (liC (tkI l) l (lsS (tkI l) 0 0 3).1 (lsS (tkI l) 0 0 3).2) (liL (tkI l) l (lsS (tkI l) 0 0 3).1 (lsS (tkI l) 0 0 3).2) → (OwnE 138 8 Le.cs base W vL (liC (rdL l) l (liF (tkI l) l (lsS (tkI l) 0 0 3).1 (lsS (tkI l) 0 0 3).2).1 (liF (tkI l) l (lsS (tkI l) 0 0 3).1 (lsS (tkI l) 0 0 3).2).2) yL ∧ (∀ j (g : j < yL.length), LeSame (liV (rdL l) l (liF (tkI l) l (lsS (tkI l) 0 0 3).1 (lsS (tkI l) 0 0 3).2).1 (liF (tkI l) l (lsS (tkI l) 0 0 3).1 (lsS (tkI l) 0 0 3).2).2 j) yL[j]) ∧ (∀ y ∈ yL, OwnN base W (.slice y.sa y.sl y.sc) y.sl y.co)) → AnO l 0 0 base W #[.int .i64 (lsV (tkI l) 0 0 0), .int .i64 (lsV (tkI l) 0 0 1), .int .i64 (lsV (tkI l) 0 0 2), vI, vL]) := by
    unfold Hid AnO anB
    simp only [tkc_ls]
    intro base W vI vL yL h1 h2
    exact ⟨vI, vL, yL, rfl, h1, h2⟩
  clear a3 aB
  rw [EA.out]
  generalize lsV (tkI l) 0 0 0 = x0 at *
  generalize lsV (tkI l) 0 0 1 = x1 at *
  generalize lsV (tkI l) 0 0 2 = x2 at *
  generalize AnO l 0 0 = AN at *
  generalize hs1 : lsS (tkI l) 0 0 3 = S1 at *
  obtain ⟨P1, F1⟩ := S1
  simp only at N1 N2 N3 E2 FIN EA
  generalize liC (tkI l) l P1 F1 = NC at *
  generalize liL (tkI l) l P1 F1 = LL at *
  generalize hs2 : liF (tkI l) l P1 F1 = S2 at *
  obtain ⟨P2, F2⟩ := S2
  simp only at N2 N3 E2 FIN EA
  generalize liC (rdL l) l P2 F2 = NL at *
  generalize liV (rdL l) l P2 F2 = VL at *
  generalize hs3 : liF (rdL l) l P2 F2 = S3 at *
  obtain ⟨P3, F3⟩ := S3
  simp only at N3 E2
  clear hs1 hs2 hs3 EA
  go_enter Try.func25, Try.ntmps25
  go_upto_region 1 with fail
  have B := hid ((Below.refl w.heap.size w).alloc (Nat.le_refl _) (.cells #[.int .i64 0, .int .i64 0, .int .i64 0, .slice none 0 0, .slice none 0 0] 46))
  have Y := hid (Blk.alloc w #[.int .i64 0, .int .i64 0, .int .i64 0, .slice none 0 0, .slice none 0 0] (46))
  have s : Hid (w.heap.size + 1 ≤ (w.alloc (.cells #[.int .i64 0, .int .i64 0, .int .i64 0, .slice none 0 0, .slice none 0 0] 46)).heap.size) := by unfold Hid; simp
  generalize (w.alloc (.cells #[.int .i64 0, .int .i64 0, .int .i64 0, .slice none 0 0, .slice none 0 0] 46)) = W0 at *
  have CC := hid (N1.out W0 (HL.out.below B.out))
  go_wp2_with (refine wpList_built rfl 102 _ rfl #[.slice a n c, .int .i64 0, .int .i64 0] (by kernel_rfl) ?_)
  with_reducible refine CC.out.mono ?_
  rintro e w1 ⟨g, rfl, hg, hb, b1⟩
  have hg1 : w.heap.size + 1 ≤ g := by have := s.out; omega
  have hg2 := hb.lt
  have b2 := (Below.refl w1.heap.size w1).alloc (Nat.le_refl _) (.cells #[.slice a n c, .int .i64 P1, .int .i64 F1] 102)
  have X := hid (Blk.alloc w1 #[.slice a n c, .int .i64 P1, .int .i64 F1] (102))
  replace Y := hid ((Y.out.below b1).below b2)
  have G := hid (hb.below b2)
  replace B := hid ((B.out.trans (b1.mono B.out.size)).trans (b2.mono (B.out.trans (b1.mono B.out.size)).size))
  replace s : Hid (w1.heap.size + 1 ≤ (w1.alloc (.cells #[.slice a n c, .int .i64 P1, .int .i64 F1] 102)).heap.size) := by unfold Hid; simp
  clear CC b1 b2 hb hg N1
  go_upto_region 2 with (refine wpList_store_row rfl 102 (.tmp 5) (.tmp 15) rfl w1.heap.size #[.slice a n c, .int .i64 P1, .int .i64 F1] rfl rfl 102 _ (heap_alloc_new w1 _) sizeRead rfl (by simp [Value.oneCell']) ?_)
  rw [alloc_row]
  generalize w1.alloc (.cells #[.slice a n c, .int .i64 P1, .int .i64 F1] 102) = W1 at *
  generalize w1.heap.size = Q5 at *
  have LD := X.out.loadAt Try.underlying102 rfl sizeRead
  have CC := hid (N2.out W1 (HL.out.below B.out))
  go_wp2_with (refine wpList_load_at 102 rfl (.tmp 5) rfl _ _ rfl _ LD ?_)
  with_reducible refine CC.out.mono ?_
  rintro e w2 ⟨v, rfl, hv, hv2, b1⟩
  obtain ⟨va, vn, vc, rfl, hvg⟩ : ∃ va vn vc, v = .slice va vn vc ∧ (F2 = 0 → OwnN W1.heap.size w2 (.slice va vn vc) NC LL) := by
    by_cases hF : F2 = 0
    · have h := hv hF
      obtain ⟨va, vc, rfl⟩ := h.form
      exact ⟨va, NC, vc, rfl, fun _ => h⟩
    · exact ⟨none, 0, 0, hv2 hF, fun h => absurd h hF⟩
  have hss := s.out
  have BX := X.out.below b1
  unfold Blk at BX
  replace X := hid ((X.out.below b1).row #[.slice a n c, .int .i64 P2, .int .i64 F2])
  replace Y := hid ((Y.out.below b1).other (q := Q5) (ds := #[.slice a n c, .int .i64 P2, .int .i64 F2]) (by omega))
  replace G := hid ((G.out.below b1).other (q := Q5) (ds := #[.slice a n c, .int .i64 P2, .int .i64 F2]) (by omega))
  have OV := hid (fun z => ((hvg z).weaken (b' := Q5 + 1) (by omega)).row (q := Q5) (by omega) #[.slice a n c, .int .i64 P2, .int .i64 F2])
  replace B := hid (setRow_below (q := Q5) (cs := #[.slice a n c, .int .i64 P2, .int .i64 F2]) (B.out.trans (b1.mono B.out.size)) (by omega))
  replace s : Hid (Q5 + 1 ≤ (w2.setRow Q5 #[.slice a n c, .int .i64 P2, .int .i64 F2]).heap.size) := by unfold Hid; have := b1.size; simp; omega
  clear CC LD b1 hv hv2 hvg hss N2
  go_upto_region 3 with (refine wpList_store_row rfl 102 (.tmp 5) (.tmp 20) rfl Q5 #[.slice a n c, .int .i64 P2, .int .i64 F2] rfl rfl 102 _ BX sizeRead rfl (by simp [Value.oneCell']) ?_)
  clear BX
  generalize w2.setRow Q5 #[.slice a n c, .int .i64 P2, .int .i64 F2] = W2 at *
  have LD := X.out.loadAt Try.underlying102 rfl sizeRead
  have CC := hid (N3.out W2 (HL.out.below B.out))
  go_wp2_with (refine wpList_load_at 102 rfl (.tmp 5) rfl _ _ rfl _ LD ?_)
  with_reducible refine CC.out.mono ?_
  rintro e w3 ⟨v, rfl, hv, hv2, b1⟩
  obtain ⟨ua, un, uc, rfl, hvg⟩ : ∃ va vn vc, v = .slice va vn vc ∧ (F3 = 0 → ∃ ys, OwnE 138 8 Le.cs W2.heap.size w3 (.slice va vn vc) NL ys ∧ (∀ j (g : j < ys.length), LeSame (VL j) ys[j]) ∧ ∀ y ∈ ys, OwnN W2.heap.size w3 (.slice y.sa y.sl y.sc) y.sl y.co) := by
    by_cases hF : F3 = 0
    · obtain ⟨ys, h, h'⟩ := hv hF
      obtain ⟨va, vc, rfl⟩ := h.form
      exact ⟨va, NL, vc, rfl, fun _ => ⟨ys, h, h'⟩⟩
    · exact ⟨none, 0, 0, hv2 hF, fun h => absurd h hF⟩
  have hss := s.out
  have BX := X.out.below b1
  unfold Blk at BX
  replace X := hid ((X.out.below b1).row #[.slice a n c, .int .i64 P3, .int .i64 F3])
  replace Y := hid ((Y.out.below b1).other (q := Q5) (ds := #[.slice a n c, .int .i64 P3, .int .i64 F3]) (by omega))
  replace G := hid ((G.out.below b1).other (q := Q5) (ds := #[.slice a n c, .int .i64 P3, .int .i64 F3]) (by omega))
  replace OV := hid (fun z => ((OV.out z).below b1).row (q := Q5) (by omega) #[.slice a n c, .int .i64 P3, .int .i64 F3])
  have OL : Hid (F3 = 0 → ∃ ys, OwnE 138 8 Le.cs (Q5 + 1) (w3.setRow Q5 #[.slice a n c, .int .i64 P3, .int .i64 F3]) (.slice ua un uc) NL ys ∧ (∀ j (g : j < ys.length), LeSame (VL j) ys[j]) ∧ ∀ y ∈ ys, OwnN (Q5 + 1) (w3.setRow Q5 #[.slice a n c, .int .i64 P3, .int .i64 F3]) (.slice y.sa y.sl y.sc) y.sl y.co) := fun z => by
    obtain ⟨ys, h1, h2, h3⟩ := hvg z
    exact ⟨ys, (h1.weaken (b' := Q5 + 1) (by omega)).row (q := Q5) (by omega) _, h2, fun y hy => ((h3 y hy).weaken (b' := Q5 + 1) (by omega)).row (q := Q5) (by omega) _⟩
  replace B := hid (setRow_below (q := Q5) (cs := #[.slice a n c, .int .i64 P3, .int .i64 F3]) (B.out.trans (b1.mono B.out.size)) (by omega))
  clear CC LD b1 hv hv2 hvg hss s N3
  go_upto_region 4 with (refine wpList_store_row rfl 102 (.tmp 5) (.tmp 25) rfl Q5 #[.slice a n c, .int .i64 P3, .int .i64 F3] rfl rfl 102 _ BX sizeRead rfl (by simp [Value.oneCell']) ?_)
  clear BX
  generalize w3.setRow Q5 #[.slice a n c, .int .i64 P3, .int .i64 F3] = W3 at *
  have LD := X.out.loadAt Try.underlying102 rfl sizeRead
  have CC := hid (dend_any a n c P3 F3 W3)
  have EE := hid (fun h => endT_err (n := n) (A := P3) (E := F3) h)
  have EZ := hid (fun h => endT_zero (n := n) (A := P3) (E := F3) h)
  generalize hen : endT n P3 F3 = EN at *
  have HEN := hid hen
  clear hen
  obtain ⟨en, ee⟩ := EN
  simp only at CC EE EZ
  go_wp2_with (refine wpList_load_at 102 rfl (.tmp 5) rfl _ _ rfl _ LD ?_)
  with_reducible refine CC.out.mono ?_
  rintro e W4 ⟨rfl, b1⟩
  replace Y := hid (Y.out.below b1)
  replace G := hid (G.out.below b1)
  replace OV := hid (fun z => (OV.out z).below b1)
  replace OL : Hid (F3 = 0 → ∃ ys, OwnE 138 8 Le.cs (Q5 + 1) W4 (.slice ua un uc) NL ys ∧ (∀ j (g : j < ys.length), LeSame (VL j) ys[j]) ∧ ∀ y ∈ ys, OwnN (Q5 + 1) W4 (.slice y.sa y.sl y.sc) y.sl y.co) := fun z => by
    obtain ⟨ys, h1, h2, h3⟩ := OL.out z
    exact ⟨ys, h1.below b1, h2, fun y hy => (h3 y hy).below b1⟩
  replace B := hid (B.out.trans (b1.mono B.out.size))
  clear CC LD b1 X
  by_cases hE : ee = 0
  · obtain ⟨rfl, rfl⟩ : en = 0 ∧ ee = 0 := by have := EZ.out hE; simpa using this
    have hf3 := EE.out rfl
    have hf2 := E2.out hf3
    have OV1 := hid (OV.out hf2)
    have OL1 := hid (OL.out hf3)
    clear EZ EE E2 OV OL hE hf3 hf2
    go_upto_region 7 with fail
    have dy : Blk W4.drew w.heap.size 46 #[.int .i64 0, .int .i64 0, .int .i64 0, .slice none 0 0, .slice none 0 0] := Y.out
    have dg : Blk W4.drew g 2 #[.int .i64 x0, .int .i64 x1, .int .i64 x2] := G.out
    have dv : OwnN (Q5 + 1) W4.drew (.slice va vn vc) NC LL := OV1.out
    have dl : ∃ ys, OwnE 138 8 Le.cs (Q5 + 1) W4.drew (.slice ua un uc) NL ys ∧ (∀ j (g : j < ys.length), LeSame (VL j) ys[j]) ∧ ∀ y ∈ ys, OwnN (Q5 + 1) W4.drew (.slice y.sa y.sl y.sc) y.sl y.co := OL1.out
    have db : Below w.heap.size w W4.drew := B.out.drew
    have DV := hid dv
    have DL := hid dl
    clear Y G OV1 OL1 B dv dl
    refine wp_region_held_drew (S := fun W => Blk W g 2 #[.int .i64 x0, .int .i64 x1, .int .i64 x2]) (by kernel_rfl) dg (fun hHeld => ?_)
    generalize W4.drew = WD at *
    refine wpAnyH_take (i := 0) (v := .slice (some ⟨g, 0, none⟩) 3 3) rfl (by kernel_rfl) (by kernel_rfl) (by kernel_rfl) (fun _ _ _ h => h) (Or.inl ⟨by rfl, ?_⟩) (by assumption) ?_
    · (intro w hSw; (try dsimp only at hSw);  go_simp)
    (try simp only [Act.put, List.getElem_toArray, List.getElem_cons_succ, List.getElem_cons_zero, List.setIfInBounds_toArray, List.set_cons_zero, List.set_cons_succ])
    refine wpAnyH_take (i := 1) (v := .pointer (some ⟨g, 0, none⟩)) rfl (by kernel_rfl) (by kernel_rfl) (by kernel_rfl) (fun _ _ _ h => h) (Or.inl ⟨by rfl, ?_⟩) (by assumption) ?_
    · (intro w hSw; (try dsimp only at hSw);  go_simp)
    (try simp only [Act.put, List.getElem_toArray, List.getElem_cons_succ, List.getElem_cons_zero, List.setIfInBounds_toArray, List.set_cons_zero, List.set_cons_succ])
    refine wpAnyH_take (i := 2) (v := .int .i64 x0) rfl (by kernel_rfl) (by kernel_rfl) (by kernel_rfl) (fun _ _ _ h => h) (Or.inl ⟨by rfl, ?_⟩) (by assumption) ?_
    · (intro w hSw; (try dsimp only at hSw); have hc := hSw.cellAt 0 _ rfl; go_simp)
    (try simp only [Act.put, List.getElem_toArray, List.getElem_cons_succ, List.getElem_cons_zero, List.setIfInBounds_toArray, List.set_cons_zero, List.set_cons_succ])
    refine wpAnyH_take (i := 3) (v := .slice (some ⟨g, 0, none⟩) 3 3) rfl (by kernel_rfl) (by kernel_rfl) (by kernel_rfl) (fun _ _ _ h => h) (Or.inl ⟨by rfl, ?_⟩) (by assumption) ?_
    · (intro w hSw; (try dsimp only at hSw);  go_simp)
    (try simp only [Act.put, List.getElem_toArray, List.getElem_cons_succ, List.getElem_cons_zero, List.setIfInBounds_toArray, List.set_cons_zero, List.set_cons_succ])
    refine wpAnyH_take (i := 4) (v := .pointer (some ⟨g, 1, none⟩)) rfl (by kernel_rfl) (by kernel_rfl) (by kernel_rfl) (fun _ _ _ h => h) (Or.inl ⟨by rfl, ?_⟩) (by assumption) ?_
    · (intro w hSw; (try dsimp only at hSw);  go_simp)
    (try simp only [Act.put, List.getElem_toArray, List.getElem_cons_succ, List.getElem_cons_zero, List.setIfInBounds_toArray, List.set_cons_zero, List.set_cons_succ])
    refine wpAnyH_take (i := 5) (v := .int .i64 x1) rfl (by kernel_rfl) (by kernel_rfl) (by kernel_rfl) (fun _ _ _ h => h) (Or.inl ⟨by rfl, ?_⟩) (by assumption) ?_
    · (intro w hSw; (try dsimp only at hSw); have hc := hSw.cellAt 1 _ rfl; go_simp)
    (try simp only [Act.put, List.getElem_toArray, List.getElem_cons_succ, List.getElem_cons_zero, List.setIfInBounds_toArray, List.set_cons_zero, List.set_cons_succ])
    refine wpAnyH_take (i := 6) (v := .slice (some ⟨g, 0, none⟩) 3 3) rfl (by kernel_rfl) (by kernel_rfl) (by kernel_rfl) (fun _ _ _ h => h) (Or.inl ⟨by rfl, ?_⟩) (by assumption) ?_
    · (intro w hSw; (try dsimp only at hSw);  go_simp)
    (try simp only [Act.put, List.getElem_toArray, List.getElem_cons_succ, List.getElem_cons_zero, List.setIfInBounds_toArray, List.set_cons_zero, List.set_cons_succ])
    refine wpAnyH_take (i := 7) (v := .pointer (some ⟨g, 2, none⟩)) rfl (by kernel_rfl) (by kernel_rfl) (by kernel_rfl) (fun _ _ _ h => h) (Or.inl ⟨by rfl, ?_⟩) (by assumption) ?_
    · (intro w hSw; (try dsimp only at hSw);  go_simp)
    (try simp only [Act.put, List.getElem_toArray, List.getElem_cons_succ, List.getElem_cons_zero, List.setIfInBounds_toArray, List.set_cons_zero, List.set_cons_succ])
    refine wpAnyH_take (i := 8) (v := .int .i64 x2) rfl (by kernel_rfl) (by kernel_rfl) (by kernel_rfl) (fun _ _ _ h => h) (Or.inl ⟨by rfl, ?_⟩) (by assumption) ?_
    · (intro w hSw; (try dsimp only at hSw); have hc := hSw.cellAt 2 _ rfl; go_simp)
    (try simp only [Act.put, List.getElem_toArray, List.getElem_cons_succ, List.getElem_cons_zero, List.setIfInBounds_toArray, List.set_cons_zero, List.set_cons_succ])
    refine wpAnyH_take (i := 9) (v := .slice va vn vc) rfl (by kernel_rfl) (by kernel_rfl) (by kernel_rfl) (fun _ _ _ h => h) (Or.inl ⟨by rfl, ?_⟩) (by assumption) ?_
    · (intro w hSw; (try dsimp only at hSw);  go_simp)
    (try simp only [Act.put, List.getElem_toArray, List.getElem_cons_succ, List.getElem_cons_zero, List.setIfInBounds_toArray, List.set_cons_zero, List.set_cons_succ])
    refine wpAnyH_take (i := 10) (v := .slice ua un uc) rfl (by kernel_rfl) (by kernel_rfl) (by kernel_rfl) (fun _ _ _ h => h) (Or.inl ⟨by rfl, ?_⟩) (by assumption) ?_
    · (intro w hSw; (try dsimp only at hSw);  go_simp)
    (try simp only [Act.put, List.getElem_toArray, List.getElem_cons_succ, List.getElem_cons_zero, List.setIfInBounds_toArray, List.set_cons_zero, List.set_cons_succ])
    refine wpAnyH_take (i := 11) (v := .agg #[.int .i64 x0, .int .i64 x1, .int .i64 x2, .slice va vn vc, .slice ua un uc]) rfl (by kernel_rfl) (by kernel_rfl) (by kernel_rfl) (fun _ _ _ h => h) (yieldsIf_build (by rfl) _ _ rfl #[.int .i64 x0, .int .i64 x1, .int .i64 x2, .slice va vn vc, .slice ua un uc] (by kernel_rfl)) (by assumption) ?_
    (try simp only [Act.put, List.getElem_toArray, List.getElem_cons_succ, List.getElem_cons_zero, List.setIfInBounds_toArray, List.set_cons_zero, List.set_cons_succ])
    refine wpAnyH_take (i := 12) (v := .int .i64 0) rfl (by kernel_rfl) (by kernel_rfl) (by kernel_rfl) (fun _ _ _ h => h) (Or.inl ⟨by rfl, ?_⟩) (by assumption) ?_
    · (intro w hSw; (try dsimp only at hSw);  go_simp)
    (try simp only [Act.put, List.getElem_toArray, List.getElem_cons_succ, List.getElem_cons_zero, List.setIfInBounds_toArray, List.set_cons_zero, List.set_cons_succ])
    refine wpAnyH_ready (rs := [13]) (by kernel_rfl) (by simp) ?_
    refine AllReadyH.cons rfl (fun K hK => ?_) AllReadyH.nil
    refine storeRow_step rfl 46 (.tmp 2) (.tmp 48) rfl w.heap.size #[.int .i64 x0, .int .i64 x1, .int .i64 x2, .slice va vn vc, .slice ua un uc] rfl rfl 46 _ dy sizeAns rfl (by simp [Value.oneCell']) ?_
    refine hK.out _ _ (dg.other (by omega)) (fun hHeld => ?_)
    clear hK K
    (try simp only [Act.put, List.getElem_toArray, List.getElem_cons_succ, List.getElem_cons_zero, List.setIfInBounds_toArray, List.set_cons_zero, List.set_cons_succ])
    refine wpAnyH_take (i := 14) (v := .int .i64 0) rfl (by kernel_rfl) (by kernel_rfl) (by kernel_rfl) (fun _ _ _ h => h) (Or.inl ⟨by rfl, ?_⟩) (by assumption) ?_
    · (intro w hSw; (try dsimp only at hSw);  go_simp)
    (try simp only [Act.put, List.getElem_toArray, List.getElem_cons_succ, List.getElem_cons_zero, List.setIfInBounds_toArray, List.set_cons_zero, List.set_cons_succ])
    refine wpAnyH_take (i := 15) (v := .int .i64 0) rfl (by kernel_rfl) (by kernel_rfl) (by kernel_rfl) (fun _ _ _ h => h) (Or.inl ⟨by rfl, ?_⟩) (by assumption) ?_
    · (intro w hSw; (try dsimp only at hSw);  go_simp)
    (try simp only [Act.put, List.getElem_toArray, List.getElem_cons_succ, List.getElem_cons_zero, List.setIfInBounds_toArray, List.set_cons_zero, List.set_cons_succ])
    refine wpAnyH_done (by kernel_rfl) ?_ _
    clear hHeld
    go_wp2_with fail
    refine bodyPost_ret (results_cell3 rfl rfl ((dy.row _).loadVar Try.underlying46 rfl sizeAns)) rfl ?_
    rw [HEN.out]
    refine ⟨_, rfl, fun h => absurd rfl h, fun _ => ?_, setRow_below db (Nat.le_refl _)⟩
    obtain ⟨ys, h1, h2, h3⟩ := DL.out
    exact FIN.out _ _ _ _ ys ((DV.out.row (by omega) _).weaken (by omega)) ⟨(h1.row (by omega) _).weaken (by omega), h2, fun y hy => ((h3 y hy).row (by omega) _).weaken (by omega)⟩
  · have tE : (ee != 0) = true := by simpa using hE
    have BY := Y.out
    unfold Blk at BY
    have HE := hid hE
    clear EZ EE E2 OV OL hE G
    go_wp2_with (first | refine wpList_built rfl 46 _ rfl #[.int .i64 0, .int .i64 0, .int .i64 0, .slice none 0 0, .slice none 0 0] (by kernel_rfl) ?_ | refine wpList_store_row rfl 46 (.tmp 2) (.tmp 34) rfl w.heap.size #[.int .i64 0, .int .i64 0, .int .i64 0, .slice none 0 0, .slice none 0 0] rfl rfl 46 _ BY sizeAns rfl (by simp [Value.oneCell']) ?_)
    refine bodyPost_ret (results_cell3 rfl rfl ((Y.out.row _).loadVar Try.underlying46 rfl sizeAns)) rfl ?_
    rw [HEN.out]
    exact ⟨_, rfl, fun _ => rfl, fun h => absurd h HE.out, setRow_below B.out (Nat.le_refl _)⟩
end Go.Proofs.Ythkbddnkcljjpaa
