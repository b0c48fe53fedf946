/-
  Contracts of furlongref14: Sync, Read; lists of bytes.
  Contracts of furlongref14: New, Put.
  Contracts of furlongref14: Put refused, Crash, New.
  Contracts of furlongref14: New.
  DiskScripts: both disks side by side, and how they answer to each other.
  Calls of a disk, as they come in, with the bounds of their bytes.
  DiskScripts: the bytes that the law makes ahead of a call.
-/
import Derived.Test.YtpkifcoichjnbaaMJ
import Derived.Test.YtpkifcoichjnbaaSD
import Derived.Test.YtpkifcoichjnbaaMD
import Derived.Test.YtpkifcoichjnbaaMA
namespace Go.Proofs.Ytpkifcoichjnbaa
open Go.RowKit Go.Deep Go.Maps
set_option linter.unusedVariables false
set_option linter.unusedSimpArgs false
/-- Bytes somewhere, with what they read as. -/
structure Sl where
  sa : Option Addr
  sl : Nat
  sc : Nat
  p : List Int
def Sl.cs (x : Sl) : List Value := [.slice x.sa x.sl x.sc]
theorem Sl.cs_len (x : Sl) : x.cs.length = 1 := rfl
theorem Sl.one (x : Sl) : ∀ u ∈ x.cs, u.oneCell' = true := by
  intro u hu
  simp [Sl.cs] at hu
  subst hu
  rfl
set_option maxRecDepth 100000 in
/-- A slice of new memory. -/
def Nw (B : Nat) (a : Option Addr) : Prop := ∀ b o, a = some ⟨b, o, none⟩ → B ≤ b
theorem OwnE.nw {α : Type} {e : TypeId} {k : Nat} {enc : α → List Value} {base n B : Nat} {l : List α} {a : Option Addr} {c : Nat} {w : World} (h : OwnE e k enc base w (.slice a n c) n l) (hb : B ≤ base) : Nw B a := fun b o e => by
  have := (h.2.lt b (by rw [e]; rfl)).1
  omega
theorem infoByt : (Try.prog.info? 34).map (fun i => (i.zero, i.size, i.bytes)) = some (some (.slice none 0 0), 1, 24) := by kernel_rfl
set_option maxRecDepth 100000 in
theorem sizeRdk : (Try.prog.info? 31).map (·.size) = some 3 := by kernel_rfl
set_option maxRecDepth 100000 in
theorem alloc_rdk (w : World) : (Instr.alloc 31 true (.tuple #[])).run Try.prog w = .ok (.pointer (some ⟨w.heap.size, 0, none⟩)) (w.alloc (.cells #[.slice none 0 0, .slice none 0 0, .slice none 0 0] 31)) := by kernel_rfl
set_option maxRecDepth 100000 in
set_option maxHeartbeats 4000000 in
theorem rsync_any (na : Option Addr) (nn nc : Nat) (now : List Sl) (sa : Option Addr) (sn sc : Nat) (la : Option Addr) (ln lc : Nat) (w : World) (h : HoldsE 1 Sl.cs w na nn nc now) (hn : nn ≤ 100000) :
    Calls Try.prog 13 #[.agg #[.slice na nn nc, .slice sa sn sc, .slice la ln lc]] w fun e w' => ∃ qa qc, e = .returned (.agg #[.slice na nn nc, .slice qa nn qc, .slice none 0 0]) ∧ HoldsE 1 Sl.cs w' qa nn qc now ∧ Nw w.heap.size qa ∧ Below w.heap.size w w' := by
  have HN := hid h
  have hcap := h.2.1
  clear h
  go_enter Try.func13, Try.ntmps13
  go_upto_region 1 with fail
  have b1 := (Below.refl w.heap.size w).alloc (Nat.le_refl _) (.cells #[.slice na nn nc, .slice sa sn sc, .slice la ln lc] 31)
  have X := hid ((Blk.alloc w #[.slice na nn nc, .slice sa sn sc, .slice la ln lc] (31)).below ((Below.refl _ _).alloc (Nat.le_refl _) (.cells #[.slice none 0 0, .slice none 0 0, .slice none 0 0] 31)))
  have Y := hid (Blk.alloc (w.alloc (.cells #[.slice na nn nc, .slice sa sn sc, .slice la ln lc] 31)) #[.slice none 0 0, .slice none 0 0, .slice none 0 0] (31))
  have B := hid (b1.alloc b1.size (.cells #[.slice none 0 0, .slice none 0 0, .slice none 0 0] 31))
  have s1 : (w.alloc (.cells #[.slice na nn nc, .slice sa sn sc, .slice la ln lc] 31)).heap.size = w.heap.size + 1 := by simp
  rw [s1] at Y
  clear b1 s1
  generalize ((w.alloc (.cells #[.slice na nn nc, .slice sa sn sc, .slice la ln lc] 31)).alloc (.cells #[.slice none 0 0, .slice none 0 0, .slice none 0 0] 31)) = W at *
  have c := X.out.cellAt 0 (.slice na nn nc) rfl
  have b := (Below.refl W.heap.size W).alloc (Nat.le_refl _) (.cells #[] 34)
  have d := keepc b c
  have O0 := hid (OwnE.lit 34 1 Sl.cs W)
  have HSRC := hid ((HN.out).below (B.out.trans (b.mono B.out.size)))
  have XB := hid b
  clear c b
  go_wp2_with (at_builtin; refine cat_ownE 28 34 _ 24 Sl.cs_len Sl.one Try.underlying28 infoByt rfl (by decide) (W.alloc (.cells #[] 34)) rfl (.tmp 3) (.tmp 5) rfl W.heap.size 0 (.slice (some ⟨W.heap.size, 0, none⟩) 0 0) [] rfl O0.out (by simp) na nn nc now rfl HSRC.out (by omega) (by omega) ?_)
  intro vv W' h bb gg
  have hB := XB.out.trans (bb.mono (Nat.le_refl _))
  have sx := X.out.lt
  have sy := Y.out.lt
  have RQ : Hid (OwnE 34 1 Sl.cs (w.heap.size + 2) W' vv nn now) := by unfold Hid; have := h.weaken (b' := w.heap.size + 2) (by omega); simpa using this
  replace X := hid (X.out.below hB)
  replace Y := hid (Y.out.below hB)
  replace B := hid (B.out.trans (hB.mono B.out.size))
  clear h bb gg hB d O0 HSRC XB sx sy
  obtain ⟨qa, qc, rfl⟩ := RQ.out.form
  have y := X.out.cellAt 1 _ rfl
  have y2 := X.out.cellAt 2 _ rfl
  have ff : W'.frozen? ⟨w.heap.size, 1, none⟩ = false := X.out.froz
  go_upto_region 2 with fail
  replace X : Hid (Blk (W'.setCell ⟨w.heap.size, 1, none⟩ (.slice qa nn qc)) w.heap.size 31 #[.slice na nn nc, .slice qa nn qc, .slice la ln lc]) := X.out.put (i := 1) (.slice qa nn qc)
  replace Y := hid (Y.out.cellO ⟨w.heap.size, 1, none⟩ (.slice qa nn qc) (by show w.heap.size + 1 ≠ w.heap.size; omega))
  replace RQ := hid (RQ.out.cellO ⟨w.heap.size, 1, none⟩ (.slice qa nn qc) (by show w.heap.size < w.heap.size + 2; omega))
  replace B := hid (B.out.setCell (p := ⟨w.heap.size, 1, none⟩) (Nat.le_refl _) (.slice qa nn qc))
  clear y y2 ff
  generalize W'.setCell ⟨w.heap.size, 1, none⟩ (.slice qa nn qc) = W2 at *
  have y := X.out.cellAt 2 _ rfl
  have ff : W2.frozen? ⟨w.heap.size, 2, none⟩ = false := X.out.froz
  go_upto_region 3 with fail
  replace X : Hid (Blk (W2.setCell ⟨w.heap.size, 2, none⟩ (.slice none 0 0)) w.heap.size 31 #[.slice na nn nc, .slice qa nn qc, .slice none 0 0]) := X.out.put (i := 2) (.slice none 0 0)
  replace Y := hid (Y.out.cellO ⟨w.heap.size, 2, none⟩ (.slice none 0 0) (by show w.heap.size + 1 ≠ w.heap.size; omega))
  replace RQ := hid (RQ.out.cellO ⟨w.heap.size, 2, none⟩ (.slice none 0 0) (by show w.heap.size < w.heap.size + 2; omega))
  replace B := hid (B.out.setCell (p := ⟨w.heap.size, 2, none⟩) (Nat.le_refl _) (.slice none 0 0))
  clear y ff
  generalize W2.setCell ⟨w.heap.size, 2, none⟩ (.slice none 0 0) = W3 at *
  have LD := X.out.loadAt Try.underlying31 rfl sizeRdk
  have BY := Y.out
  unfold Blk at BY
  go_wp2_with (first | refine wpList_load_at 31 rfl (.tmp 1) rfl _ _ rfl _ LD ?_ | refine wpList_store_row rfl 31 (.tmp 2) (.tmp 9) rfl (w.heap.size + 1) #[.slice na nn nc, .slice qa nn qc, .slice none 0 0] rfl rfl 31 _ BY sizeRdk rfl (by simp [Value.oneCell']) ?_)
  refine bodyPost_ret (results_cell rfl rfl ((Y.out.row _).loadVar Try.underlying31 rfl sizeRdk)) rfl ?_
  exact ⟨qa, qc, rfl, (RQ.out.row (by omega) _).holds Sl.cs_len, RQ.out.nw (by omega), setRow_below B.out (by omega)⟩
theorem bk_take {l : List Int} {j : Nat} (h : j < l.length) (h2 : j < 64) : (bk (l.take j)).set j (.int .u8 l[j]) = bk (l.take (j + 1)) := by
  apply List.ext_getElem?
  intro i
  by_cases hi : i < 64
  · rw [bk_at _ hi, List.getElem?_set]
    by_cases e : j = i
    · subst e
      rw [if_pos rfl, if_pos (by rw [bk_len]; exact h2), List.getElem?_take_of_lt (by omega), List.getElem?_eq_getElem h]
      rfl
    · rw [if_neg e, bk_at _ hi]
      by_cases h3 : i < j
      · rw [List.getElem?_take_of_lt h3, List.getElem?_take_of_lt (by omega)]
      · rw [List.getElem?_eq_none (by rw [List.length_take]; omega), List.getElem?_eq_none (by rw [List.length_take]; omega)]
  · rw [List.getElem?_eq_none (by rw [List.length_set, bk_len]; omega), List.getElem?_eq_none (by rw [bk_len]; omega)]
set_option maxRecDepth 100000 in
theorem make_64 (w : World) : (Instr.makeSlice 34 (.int .i64 64) (.int .i64 64)).run Try.prog w = .ok (.slice (some ⟨w.heap.size, 0, none⟩) 64 64) (w.alloc (.cells (bk []).toArray 5)) := by kernel_rfl
set_option maxRecDepth 100000 in
theorem rread_out (na : Option Addr) (nn nc : Nat) (sv lv : Value) (n : Int) (w : World) (hv : sv.oneCell' = true ∧ lv.oneCell' = true) (hn : ¬ (0 ≤ n ∧ n < (nn : Int))) :
    Calls Try.prog 17 #[.agg #[.slice na nn nc, sv, lv], .int .i64 n] w fun e w' => e = .returned (.tuple #[.slice none 0 0, .int .i64 8]) ∧ Below w.heap.size w w' := by
  go_enter Try.func17, Try.ntmps17
  have b1 := (Below.refl w.heap.size w).alloc (Nat.le_refl _) (.cells #[.slice na nn nc, sv, lv] 31)
  have c0 := (Blk.alloc w #[.slice na nn nc, sv, lv] (31)).cellAt 0 _ rfl
  have B := hid b1
  obtain ⟨hv1, hv2⟩ := hv
  clear b1
  by_cases h0 : n < 0
  · clear hn
    go_wp2_with fail
    go_ret2
    exact ⟨rfl, B.out⟩
  · have h1 : (nn : Int) ≤ n := by omega
    clear hn
    go_wp2_with fail
    go_ret2
    exact ⟨rfl, B.out⟩
set_option maxRecDepth 100000 in
set_option maxHeartbeats 4000000 in
theorem rread_in (na : Option Addr) (nn nc : Nat) (now : List Sl) (sv lv : Value) (k : Nat) (w : World) (hv : sv.oneCell' = true ∧ lv.oneCell' = true) (h : HoldsE 1 Sl.cs w na nn nc now) (hk : k < now.length) (hb : HoldsB w now[k].sa now[k].sl now[k].sc now[k].p) (hl : now[k].p.length ≤ 64) :
    Calls Try.prog 17 #[.agg #[.slice na nn nc, sv, lv], .int .i64 (k : Int)] w fun e w' => ∃ q, e = .returned (.tuple #[.slice (some ⟨q, 0, none⟩) 64 64, .int .i64 0]) ∧ HoldsB w' (some ⟨q, 0, none⟩) 64 64 (pad now[k].p) ∧ Below w.heap.size w w' := by
  have hnn := h.1
  have ka : (0 : Int) ≤ (k : Int) := by omega
  have kb : ¬ (nn : Int) ≤ (k : Int) := by omega
  have kc : (k : Int) < (nn : Int) := by omega
  have kd : ¬ (k : Int) < 0 := by omega
  obtain ⟨b, off, rfl, hbl, RI⟩ := h.rangeAt (by omega)
  have R0 := RI k now[k] (List.getElem?_eq_getElem hk)
  have HB := hid hb
  have HL := hid hb.1
  clear hb h RI hnn
  generalize now[k] = x at *
  obtain ⟨xa, xl, xc, p⟩ := x
  have R1 : w.cell? ⟨b, off + k * 1, none⟩ = some (.slice xa xl xc) := by have := R0 0 _ rfl; simpa using this
  have R2 := hid R1
  clear R0 R1
  obtain ⟨hv1, hv2⟩ := hv
  go_enter Try.func17, Try.ntmps17
  have b1 := (Below.refl w.heap.size w).alloc (Nat.le_refl _) (.cells #[.slice (some ⟨b, off, none⟩) nn nc, sv, lv] 31)
  have c0 := (Blk.alloc w #[.slice (some ⟨b, off, none⟩) nn nc, sv, lv] (31)).cellAt 0 _ rfl
  have hm := make_64 (w.alloc (.cells #[.slice (some ⟨b, off, none⟩) nn nc, sv, lv] 31))
  go_upto_region 4 with fail
  have X := hid ((Blk.alloc w #[.slice (some ⟨b, off, none⟩) nn nc, sv, lv] (31)).below ((Below.refl _ _).alloc (Nat.le_refl _) (.cells (bk []).toArray 5)))
  have Z := hid (Blk.alloc (w.alloc (.cells #[.slice (some ⟨b, off, none⟩) nn nc, sv, lv] 31)) (bk []).toArray (5))
  have B := hid (b1.alloc b1.size (.cells (bk []).toArray 5))
  have s1 : (w.alloc (.cells #[.slice (some ⟨b, off, none⟩) nn nc, sv, lv] 31)).heap.size = w.heap.size + 1 := by simp
  rw [s1] at Z
  clear c0 hm b1
  generalize hW : ((w.alloc (.cells #[.slice (some ⟨b, off, none⟩) nn nc, sv, lv] 31)).alloc (.cells (bk []).toArray 5)) = W at *
  clear hW s1
  have c0 := X.out.cellAt 0 _ rfl
  have c1 := keepc B.out R2.out
  rw [Nat.mul_one] at c1
  have HB2 := hid (HB.out.below B.out)
  clear X R2
  go_wp2_with fail
  clear c0 c1
  go_loopw [25] (fun i wr => ∃ j : Nat, j ≤ xl ∧ i = .int .i64 (j : Int) ∧ Hid (Blk wr (w.heap.size + 1) 5 (bk (p.take j)).toArray) ∧ Hid (Below w.heap.size w wr)) (fun i _ => xl - (intOf i).toNat)
  case atStart => exact ⟨0, by omega, rfl, Z, B⟩
  case round =>
    clear Z B HB2
    obtain ⟨j, hj, rfl, Z, B⟩ := hrel
    have hpl : p.length = xl := HL.out
    have ja : (0 : Int) ≤ (j : Int) := by omega
    by_cases hlt : j < xl
    · have jb : (j : Int) < (xl : Int) := by omega
      have jc : (j : Int) < 64 := by omega
      have hjp : j < p.length := by omega
      obtain ⟨g, o, e, hc⟩ := (HB.out.below B.out).2.2.2.2.2.2 (by omega)
      subst e
      have cj := hc j hlt
      rw [List.getElem?_eq_getElem hjp] at cj
      have cj : wr.cell? ⟨g, o + j, none⟩ = some (.int .u8 p[j]) := cj
      have cz := Z.out.cellAt j (.int .u8 ((p.take j)[j]?.getD 0)) (by rw [List.getElem?_toArray]; exact bk_at _ (by omega))
      have ff : wr.frozen? ⟨w.heap.size + 1, j, none⟩ = false := Z.out.froz
      have BT := hid (bk_take hjp (by omega))
      clear hc
      generalize p[j] = y at *
      go_upto_region 8 with fail
      have Z2 : Hid (Blk (wr.setCell ⟨w.heap.size + 1, j, none⟩ (.int .u8 y)) (w.heap.size + 1) 5 (bk (p.take (j + 1))).toArray) := by
        unfold Hid
        have := Z.out.put (i := j) (.int .u8 y)
        rw [← BT.out]
        simpa using this
      replace B := hid (B.out.setCell (p := ⟨w.heap.size + 1, j, none⟩) (by show w.heap.size ≤ w.heap.size + 1; omega) (.int .u8 y))
      clear Z cj cz ff BT
      generalize wr.setCell ⟨w.heap.size + 1, j, none⟩ (.int .u8 y) = w5 at *
      go_wp2_with fail
      refine ⟨⟨j + 1, by omega, by go_num, Z2, B⟩, ?_⟩
      simp [intOf]
      try omega
    · have jb : ¬ (j : Int) < (xl : Int) := by omega
      have ej : Hid (p.take j = p) := List.take_of_length_le (by omega)
      clear hlt
      go_wp2_with fail
      go_ret2
      have z := Z.out
      rw [ej.out] at z
      exact ⟨_, rfl, pad_holds HB.out.2.2.2.2.1 z, B.out⟩
end Go.Proofs.Ytpkifcoichjnbaa

namespace Go.Proofs.Ytpkifcoichjnbaa
open Go.RowKit Go.Deep Go.Maps
set_option linter.unusedVariables false
set_option linter.unusedSimpArgs false
def sl0 : Sl := ⟨none, 0, 0, []⟩
/-- A loose write of the document's. -/
structure Wo where
  n : Int
  sa : Option Addr
  sl : Nat
  sc : Nat
  p : List Int
def Wo.cs (x : Wo) : List Value := [.int .i64 x.n, .slice x.sa x.sl x.sc]
theorem Wo.cs_len (x : Wo) : x.cs.length = 2 := rfl
theorem Wo.one (x : Wo) : ∀ u ∈ x.cs, u.oneCell' = true := by
  intro u hu
  simp [Wo.cs] at hu
  rcases hu with rfl | rfl <;> rfl
set_option maxRecDepth 100000 in
theorem infoWo : (Try.prog.info? 63).map (fun i => (i.zero, i.size, i.bytes)) = some (some (.agg #[.int .i64 0, .slice none 0 0]), 2, 32) := by kernel_rfl
theorem sl_map (l : List Sl) : l.flatMap Sl.cs = l.map (fun x => Value.slice x.sa x.sl x.sc) := by
  induction l with
  | nil => rfl
  | cons x r ih => rw [List.flatMap_cons, ih]; rfl
theorem own_set {e : TypeId} {base g cap n : Nat} {l : List Sl} {w : World} (h : OwnE e 1 Sl.cs base w (.slice (some ⟨g, 0, none⟩) n cap) n l) (k : Nat) (x : Sl) : OwnE e 1 Sl.cs base (w.setCell ⟨g, k, none⟩ (.slice x.sa x.sl x.sc)) (.slice (some ⟨g, 0, none⟩) n cap) n (l.set k x) := by
  have := (h.2.stored k (.slice x.sa x.sl x.sc)).1
  refine ⟨by rw [List.length_set]; exact h.1, ?_⟩
  rw [sl_map] at this ⊢
  rw [List.map_set]
  exact this
theorem own_some {α : Type} {e : TypeId} {k : Nat} {enc : α → List Value} {base n : Nat} {l : List α} {a : Option Addr} {c : Nat} {w : World} (h : OwnE e k enc base w (.slice a n c) n l) (hn : 0 < n) : ∃ g, a = some ⟨g, 0, none⟩ ∧ base ≤ g ∧ ∃ cur : Array Value, Blk w g e cur ∧ cur.size = c * k := by
  rcases h.2.2 with ⟨h1, h2⟩ | ⟨g, cap, cur, hv, hg, hh, r1, r2, r3, r4⟩
  · cases h1; omega
  · cases hv
    exact ⟨g, rfl, hg, cur, hh, r3⟩
def encU (x : Int) : List Value := [.int .u8 x]
theorem encU_map (l : List Int) : l.flatMap encU = l.map (Value.int .u8) := by
  induction l with
  | nil => rfl
  | cons x r ih => rw [List.flatMap_cons, ih]; rfl
theorem own_toU {base n : Nat} {l : List Int} {v : Value} {w : World} (h : Own base w v n l) : OwnE 5 1 encU base w v n l := ⟨h.len, by rw [encU_map]; exact h.1⟩
theorem own_ofU {base n : Nat} {l : List Int} {v : Value} {w : World} (h : OwnE 5 1 encU base w v n l) (hb : BB l) : Own base w v n l := ⟨by have := h.2; rw [encU_map] at this; exact this, hb⟩

set_option maxRecDepth 100000 in
set_option maxHeartbeats 4000000 in
theorem rput_in (na : Option Addr) (nn nc : Nat) (now : List Sl) (sa : Option Addr) (sn sc : Nat) (la : Option Addr) (ln lc : Nat) (lo : List Wo) (k : Nat) (pa : Option Addr) (pn pc : Nat) (p : List Int) (w : World) (h : HoldsE 1 Sl.cs w na nn nc now) (hl : HoldsE 2 Wo.cs w la ln lc lo) (hp : HoldsB w pa pn pc p) (hk : k < nn) (h64 : pn ≤ 64) (hn : nn ≤ 100000) (hln : ln ≤ 100000) :
    Calls Try.prog 11 #[.agg #[.slice na nn nc, .slice sa sn sc, .slice la ln lc], .int .i64 (k : Int), .slice pa pn pc] w fun e w' => ∃ qa qc ta tc ga gc ua uc, e = .returned (.tuple #[.agg #[.slice qa nn qc, .slice sa sn sc, .slice ga (ln + 1) gc], .int .i64 0]) ∧ HoldsE 1 Sl.cs w' qa nn qc (now.set k ⟨ta, pn, tc, p⟩) ∧ HoldsE 2 Wo.cs w' ga (ln + 1) gc (lo ++ [⟨(k : Int), ua, pn, uc, p⟩]) ∧ HoldsB w' ta pn tc p ∧ HoldsB w' ua pn uc p ∧ (Nw w.heap.size qa ∧ Nw w.heap.size ga ∧ Nw w.heap.size ta ∧ Nw w.heap.size ua) ∧ Below w.heap.size w w' := by
  have HN := hid h
  have HLO := hid hl
  have HP := hid hp
  have hcap := h.2.1
  have hcap2 := hl.2.1
  have HBB := hid hp.2.2.2.2.1
  clear h hl hp
  have k0 : ¬ (k : Int) < 0 := by omega
  have k1 : ¬ (nn : Int) ≤ (k : Int) := by omega
  have k2 : (k : Int) < (nn : Int) := by omega
  have ka : (0 : Int) ≤ (k : Int) := by omega
  have p1 : ¬ 64 < (pn : Int) := by omega
  go_enter Try.func11, Try.ntmps11
  have c0 := ((Blk.alloc w #[.slice na nn nc, .slice sa sn sc, .slice la ln lc] (31)).below ((Below.refl _ _).alloc (Nat.le_refl _) (.cells #[.slice none 0 0, .slice none 0 0, .slice none 0 0] 31))).cellAt 0 _ rfl
  go_upto_region 5 with fail
  clear c0
  have b1 := (Below.refl w.heap.size w).alloc (Nat.le_refl _) (.cells #[.slice na nn nc, .slice sa sn sc, .slice la ln lc] 31)
  have X := hid ((Blk.alloc w #[.slice na nn nc, .slice sa sn sc, .slice la ln lc] (31)).below ((Below.refl _ _).alloc (Nat.le_refl _) (.cells #[.slice none 0 0, .slice none 0 0, .slice none 0 0] 31)))
  have Y := hid (Blk.alloc (w.alloc (.cells #[.slice na nn nc, .slice sa sn sc, .slice la ln lc] 31)) #[.slice none 0 0, .slice none 0 0, .slice none 0 0] (31))
  have B := hid (b1.alloc b1.size (.cells #[.slice none 0 0, .slice none 0 0, .slice none 0 0] 31))
  have s1 : (w.alloc (.cells #[.slice na nn nc, .slice sa sn sc, .slice la ln lc] 31)).heap.size = w.heap.size + 1 := by simp
  rw [s1] at Y
  clear b1 s1
  generalize ((w.alloc (.cells #[.slice na nn nc, .slice sa sn sc, .slice la ln lc] 31)).alloc (.cells #[.slice none 0 0, .slice none 0 0, .slice none 0 0] 31)) = W at *
  have c := X.out.cellAt 0 (.slice na nn nc) rfl
  have b := (Below.refl W.heap.size W).alloc (Nat.le_refl _) (.cells #[] 34)
  have d := keepc b c
  have O0 := hid (OwnE.lit 34 1 Sl.cs W)
  have HSRC := hid ((HN.out).below (B.out.trans (b.mono B.out.size)))
  have XB := hid b
  clear c b
  go_wp2_with (at_builtin; refine cat_ownE 28 34 _ 24 Sl.cs_len Sl.one Try.underlying28 infoByt rfl (by decide) (W.alloc (.cells #[] 34)) rfl (.tmp 25) (.tmp 27) rfl W.heap.size 0 (.slice (some ⟨W.heap.size, 0, none⟩) 0 0) [] rfl O0.out (by simp) na nn nc now rfl HSRC.out (by omega) (by omega) ?_)
  intro vv W' h bb gg
  have hB := XB.out.trans (bb.mono (Nat.le_refl _))
  have sx := X.out.lt
  have sy := Y.out.lt
  have RQ : Hid (OwnE 34 1 Sl.cs (w.heap.size + 2) W' vv nn now) := by unfold Hid; have := h.weaken (b' := w.heap.size + 2) (by omega); simpa using this
  replace X := hid (X.out.below hB)
  replace Y := hid (Y.out.below hB)
  replace B := hid (B.out.trans (hB.mono B.out.size))
  clear h bb gg hB d O0 HSRC XB sx sy
  obtain ⟨qa, qc, rfl⟩ := RQ.out.form
  obtain ⟨g, rfl, hg, _⟩ := own_some RQ.out (by omega)
  have y := X.out.cellAt 0 _ rfl
  have ff : W'.frozen? ⟨w.heap.size, 0, none⟩ = false := X.out.froz
  go_upto_region 6 with fail
  replace X : Hid (Blk (W'.setCell ⟨w.heap.size, 0, none⟩ (.slice (some ⟨g, 0, none⟩) nn qc)) w.heap.size 31 #[.slice (some ⟨g, 0, none⟩) nn qc, .slice sa sn sc, .slice la ln lc]) := X.out.put (i := 0) (.slice (some ⟨g, 0, none⟩) nn qc)
  replace Y := hid (Y.out.cellO ⟨w.heap.size, 0, none⟩ (.slice (some ⟨g, 0, none⟩) nn qc) (by show w.heap.size + 1 ≠ w.heap.size; omega))
  replace RQ := hid (RQ.out.cellO ⟨w.heap.size, 0, none⟩ (.slice (some ⟨g, 0, none⟩) nn qc) (by show w.heap.size < w.heap.size + 2; omega))
  replace B := hid (B.out.setCell (p := ⟨w.heap.size, 0, none⟩) (Nat.le_refl _) (.slice (some ⟨g, 0, none⟩) nn qc))
  clear y ff
  generalize W'.setCell ⟨w.heap.size, 0, none⟩ (.slice (some ⟨g, 0, none⟩) nn qc) = W2 at *
  have dX := hid (show Blk W2.drew w.heap.size 31 #[.slice (some ⟨g, 0, none⟩) nn qc, .slice sa sn sc, .slice la ln lc] from X.out)
  have dY := hid (show Blk W2.drew (w.heap.size + 1) 31 #[.slice none 0 0, .slice none 0 0, .slice none 0 0] from Y.out)
  have dQ := hid (show OwnE 34 1 Sl.cs (w.heap.size + 2) W2.drew (.slice (some ⟨g, 0, none⟩) nn qc) nn now from RQ.out)
  have dB := hid (show Below w.heap.size w W2.drew from B.out.drew)
  clear X Y RQ B
  go_cut [] from 30 to 35 (fun wx => ∃ ta tc, Hid (Blk wx w.heap.size 31 #[.slice (some ⟨g, 0, none⟩) nn qc, .slice sa sn sc, .slice la ln lc]) ∧ Hid (Blk wx (w.heap.size + 1) 31 #[.slice none 0 0, .slice none 0 0, .slice none 0 0]) ∧ Hid (OwnE 34 1 Sl.cs (w.heap.size + 2) wx (.slice (some ⟨g, 0, none⟩) nn qc) nn (now.set k ⟨ta, pn, tc, p⟩)) ∧ Hid (OwnE 5 1 encU (w.heap.size + 2) wx (.slice ta pn tc) pn p) ∧ Hid (Below w.heap.size w wx))
  case first =>
    have dS : W2.drew.cell? ⟨w.heap.size, 0, none⟩ = some (.slice (some ⟨g, 0, none⟩) nn qc) := dX.out.cellAt 0 _ rfl
    refine wp_region_held_drew (S := fun W => W.cell? ⟨w.heap.size, 0, none⟩ = some (.slice (some ⟨g, 0, none⟩) nn qc)) (by kernel_rfl) dS (fun hHeld => ?_)
    generalize W2.drew = wa at *
    refine wpAnyH_take (i := 0) (v := .pointer (some ⟨w.heap.size, 0, none⟩)) rfl (by kernel_rfl) (by kernel_rfl) (by kernel_rfl) (fun _ _ _ h => h) (Or.inl ⟨by rfl, ?_⟩) (by assumption) ?_
    · (intro w0 hSw; (try dsimp only at hSw);  go_simp)
    (try simp only [Act.put, List.getElem_toArray, List.getElem_cons_succ, List.getElem_cons_zero, List.setIfInBounds_toArray, List.set_cons_zero, List.set_cons_succ])
    refine wpAnyH_take (i := 1) (v := .slice (some ⟨g, 0, none⟩) nn qc) rfl (by kernel_rfl) (by kernel_rfl) (by kernel_rfl) (fun _ _ _ h => h) (Or.inl ⟨by rfl, ?_⟩) (by assumption) ?_
    · (intro w0 hSw; (try dsimp only at hSw);  go_simp)
    (try simp only [Act.put, List.getElem_toArray, List.getElem_cons_succ, List.getElem_cons_zero, List.setIfInBounds_toArray, List.set_cons_zero, List.set_cons_succ])
    refine wpAnyH_take (i := 2) (v := .int .i64 (k : Int)) rfl (by kernel_rfl) (by kernel_rfl) (by kernel_rfl) (fun _ _ _ h => h) (Or.inl ⟨by rfl, ?_⟩) (by assumption) ?_
    · (intro w0 hSw; (try dsimp only at hSw);  go_simp)
    (try simp only [Act.put, List.getElem_toArray, List.getElem_cons_succ, List.getElem_cons_zero, List.setIfInBounds_toArray, List.set_cons_zero, List.set_cons_succ])
    refine wpAnyH_take (i := 3) (v := .slice pa pn pc) rfl (by kernel_rfl) (by kernel_rfl) (by kernel_rfl) (fun _ _ _ h => h) (Or.inl ⟨by rfl, ?_⟩) (by assumption) ?_
    · (intro w0 hSw; (try dsimp only at hSw);  go_simp)
    (try simp only [Act.put, List.getElem_toArray, List.getElem_cons_succ, List.getElem_cons_zero, List.setIfInBounds_toArray, List.set_cons_zero, List.set_cons_succ])
    refine wpAnyH_ready (rs := [4]) (by kernel_rfl) (by simp) ?_
    refine AllReadyH.cons rfl (fun K hK => ?_) AllReadyH.nil
    have C := hid (twin_any pa pn pc p wa (HP.out.below dB.out) (by omega))
    go_simp
    refine C.out.mono ?_
    rintro e w3 ⟨v, rfl, ov, b3⟩
    obtain ⟨ta, tc, rfl⟩ := ov.form
    have sx := dY.out.lt
    have oU := hid ((own_toU ov).weaken (b' := w.heap.size + 2) (by omega))
    replace dX := hid (dX.out.below b3)
    replace dY := hid (dY.out.below b3)
    replace dQ := hid (dQ.out.below b3)
    replace dB := hid (dB.out.trans (b3.mono dB.out.size))
    clear C ov b3 sx dS
    refine hK.out _ _ (dX.out.cellAt 0 _ rfl) (fun hHeld => ?_)
    clear hK K
    (try simp only [Act.put, List.getElem_toArray, List.getElem_cons_succ, List.getElem_cons_zero, List.setIfInBounds_toArray, List.set_cons_zero, List.set_cons_succ])
    refine wpAnyH_take (i := 5) (v := .pointer (some ⟨g, k, none⟩)) rfl (by kernel_rfl) (by kernel_rfl) (by kernel_rfl) (fun _ _ _ h => h) (Or.inl ⟨by rfl, ?_⟩) (by assumption) ?_
    · (intro w0 hSw; (try dsimp only at hSw);  go_simp)
    (try simp only [Act.put, List.getElem_toArray, List.getElem_cons_succ, List.getElem_cons_zero, List.setIfInBounds_toArray, List.set_cons_zero, List.set_cons_succ])
    refine wpAnyH_ready (rs := [6]) (by kernel_rfl) (by simp) ?_
    refine AllReadyH.cons rfl (fun K hK => ?_) AllReadyH.nil
    obtain ⟨g', e', _, cur, cb, csz⟩ := own_some dQ.out (by omega)
    cases e'
    have hcs : nn ≤ qc := dQ.out.holds (enc := Sl.cs) Sl.cs_len |>.2.1
    have hkc : k < cur.size := by omega
    have y := cb.cellAt k cur[k] (Array.getElem?_eq_getElem hkc)
    have ff : w3.frozen? ⟨g, k, none⟩ = false := cb.froz
    go_simp
    have nX : w.heap.size ≠ g := by omega
    have nY : w.heap.size + 1 ≠ g := by omega
    have nU : ∀ g1, (Value.slice ta pn tc).ownBlock = some g1 → g1 ≠ g := fun g1 hg1 => own_blk_ne oU.out cb (by decide) g1 hg1
    clear y ff cb csz hcs hkc
    replace dX := hid (dX.out.cellO ⟨g, k, none⟩ (.slice ta pn tc) nX)
    replace dY := hid (dY.out.cellO ⟨g, k, none⟩ (.slice ta pn tc) nY)
    replace dQ := hid (own_set dQ.out k ⟨ta, pn, tc, p⟩)
    replace oU := hid (own_cellO (a := ⟨g, k, none⟩) oU.out nU (.slice ta pn tc))
    replace dB := hid (dB.out.setCell (p := ⟨g, k, none⟩) (by show w.heap.size ≤ g; omega) (.slice ta pn tc))
    refine hK.out _ _ (dX.out.cellAt 0 _ rfl) (fun hHeld => ?_)
    clear hK K
    (try simp only [Act.put, List.getElem_toArray, List.getElem_cons_succ, List.getElem_cons_zero, List.setIfInBounds_toArray, List.set_cons_zero, List.set_cons_succ])
    refine wpAnyH_done (by kernel_rfl) ?_ _
    clear hHeld
    go_wp2_with fail
    go_meet
    exact ⟨ta, tc, dX, dY, dQ, oU, dB⟩
  case rest =>
  clear dX dY dQ dB
  obtain ⟨ta, tc, X, Y, RQ, OU, B⟩ := hcut
  generalize wc = W3 at *
  have c := X.out.cellAt 2 (.slice la ln lc) rfl
  have b := (Below.refl W3.heap.size W3).alloc (Nat.le_refl _) (.cells #[] 63)
  have d := keepc b c
  have O0 := hid (OwnE.lit 63 2 Wo.cs W3)
  have HSRC := hid ((HLO.out).below (B.out.trans (b.mono B.out.size)))
  have XB := hid b
  clear c b
  go_wp2_with (at_builtin; refine cat_ownE 29 63 _ 32 Wo.cs_len Wo.one Try.underlying29 infoWo rfl (by decide) (W3.alloc (.cells #[] 63)) rfl (.tmp 36) (.tmp 38) rfl W3.heap.size 0 (.slice (some ⟨W3.heap.size, 0, none⟩) 0 0) [] rfl O0.out (by simp) la ln lc lo rfl HSRC.out (by omega) (by omega) ?_)
  intro vv W4 h bb gg
  have hB := XB.out.trans (bb.mono (Nat.le_refl _))
  have sx := X.out.lt
  have sy := Y.out.lt
  have RL : Hid (OwnE 63 2 Wo.cs (w.heap.size + 2) W4 vv ln lo) := by unfold Hid; have := h.weaken (b' := w.heap.size + 2) (by omega); simpa using this
  replace X := hid (X.out.below hB)
  replace Y := hid (Y.out.below hB)
  replace RQ := hid (RQ.out.below hB)
  replace OU := hid (OU.out.below hB)
  replace B := hid (B.out.trans (hB.mono B.out.size))
  clear h bb gg hB d O0 HSRC XB sx sy
  obtain ⟨va, vc, rfl⟩ := RL.out.form
  have C := hid (twin_any pa pn pc p W4 (HP.out.below B.out) (by omega))
  go_wp2_with fail
  with_reducible refine C.out.mono ?_
  rintro e W5 ⟨v, rfl, ov, b5⟩
  obtain ⟨ua, uc, rfl⟩ := ov.form
  have sy := Y.out.lt
  have UU := hid ((own_toU ov).weaken (b' := w.heap.size + 2) (by omega))
  replace X := hid (X.out.below b5)
  replace Y := hid (Y.out.below b5)
  replace RQ := hid (RQ.out.below b5)
  replace OU := hid (OU.out.below b5)
  replace RL := hid (RL.out.below b5)
  replace B := hid (B.out.trans (b5.mono B.out.size))
  have s5 : w.heap.size + 2 ≤ W5.heap.size := by have := b5.size; omega
  clear C ov b5 sy
  go_wp2_with (at_builtin; refine push_ownE 29 63 _ 32 Wo.cs_len Wo.one Try.underlying29 infoWo rfl (by decide) W5 (⟨(k : Int), ua, pn, uc, p⟩ : Wo) rfl (.tmp 40) (.tmp 45) rfl (w.heap.size + 2) ln (.slice va ln vc) lo #[.int .i64 (k : Int), .slice ua pn uc] rfl rfl RL.out s5 (by simp [Act.eval]) (by omega) (by omega) ?_)
  intro v6 W6 h6 b6 g6
  replace RQ := hid (RQ.out.grownN g6 (fun g1 e1 e2 => own_ne RQ.out RL.out (by decide) g1 e1 e2))
  replace OU := hid (OU.out.grownN g6 (fun g1 e1 e2 => own_ne OU.out RL.out (by decide) g1 e1 e2))
  replace UU := hid (UU.out.grownN g6 (fun g1 e1 e2 => own_ne UU.out RL.out (by decide) g1 e1 e2))
  replace X := hid (X.out.growN RL.out (by decide) g6)
  replace Y := hid (Y.out.growN RL.out (by decide) g6)
  replace B := hid (B.out.trans (b6.mono (by omega)))
  replace RL := hid h6
  clear h6 b6 g6 s5
  obtain ⟨ga, gc, rfl⟩ := RL.out.form
  have y := X.out.cellAt 2 _ rfl
  have ff : W6.frozen? ⟨w.heap.size, 2, none⟩ = false := X.out.froz
  go_upto_region 9 with fail
  replace X : Hid (Blk (W6.setCell ⟨w.heap.size, 2, none⟩ (.slice ga (ln + 1) gc)) w.heap.size 31 #[.slice (some ⟨g, 0, none⟩) nn qc, .slice sa sn sc, .slice ga (ln + 1) gc]) := X.out.put (i := 2) (.slice ga (ln + 1) gc)
  replace Y := hid (Y.out.cellO ⟨w.heap.size, 2, none⟩ (.slice ga (ln + 1) gc) (by show w.heap.size + 1 ≠ w.heap.size; omega))
  replace RQ := hid (RQ.out.cellO ⟨w.heap.size, 2, none⟩ (.slice ga (ln + 1) gc) (by show w.heap.size < w.heap.size + 2; omega))
  replace OU := hid (OU.out.cellO ⟨w.heap.size, 2, none⟩ (.slice ga (ln + 1) gc) (by show w.heap.size < w.heap.size + 2; omega))
  replace UU := hid (UU.out.cellO ⟨w.heap.size, 2, none⟩ (.slice ga (ln + 1) gc) (by show w.heap.size < w.heap.size + 2; omega))
  replace RL := hid (RL.out.cellO ⟨w.heap.size, 2, none⟩ (.slice ga (ln + 1) gc) (by show w.heap.size < w.heap.size + 2; omega))
  replace B := hid (B.out.setCell (p := ⟨w.heap.size, 2, none⟩) (Nat.le_refl _) (.slice ga (ln + 1) gc))
  clear y ff
  generalize W6.setCell ⟨w.heap.size, 2, none⟩ (.slice ga (ln + 1) gc) = W7 at *
  have LD := X.out.loadAt Try.underlying31 rfl sizeRdk
  have BY := Y.out
  unfold Blk at BY
  go_wp2_with (first | refine wpList_load_at 31 rfl (.tmp 3) rfl _ _ rfl _ LD ?_ | refine wpList_store_row rfl 31 (.tmp 6) (.tmp 48) rfl (w.heap.size + 1) #[.slice (some ⟨g, 0, none⟩) nn qc, .slice sa sn sc, .slice ga (ln + 1) gc] rfl rfl 31 _ BY sizeRdk rfl (by simp [Value.oneCell']) ?_)
  refine bodyPost_ret (results_cell2 rfl rfl ((Y.out.row _).loadVar Try.underlying31 rfl sizeRdk)) rfl ?_
  exact ⟨some ⟨g, 0, none⟩, qc, ta, tc, ga, gc, ua, uc, rfl, (RQ.out.row (by omega) _).holds Sl.cs_len, (RL.out.row (by omega) _).holds Wo.cs_len, (own_ofU (OU.out.row (by omega) _) HBB.out).holds, (own_ofU (UU.out.row (by omega) _) HBB.out).holds, ⟨RQ.out.nw (by omega), RL.out.nw (by omega), OU.out.nw (by omega), UU.out.nw (by omega)⟩, setRow_below B.out (by omega)⟩
end Go.Proofs.Ytpkifcoichjnbaa

namespace Go.Proofs.Ytpkifcoichjnbaa
open Go.RowKit Go.Deep Go.Maps
set_option linter.unusedVariables false
set_option linter.unusedSimpArgs false

set_option maxRecDepth 100000 in
set_option maxHeartbeats 4000000 in
theorem rput_out (na : Option Addr) (nn nc : Nat) (sa : Option Addr) (sn sc : Nat) (la : Option Addr) (ln lc : Nat) (n : Int) (p : Value) (w : World) (hn : ¬ (0 ≤ n ∧ n < (nn : Int))) :
    Calls Try.prog 11 #[.agg #[.slice na nn nc, .slice sa sn sc, .slice la ln lc], .int .i64 n, p] w fun e w' => e = .returned (.tuple #[.agg #[.slice na nn nc, .slice sa sn sc, .slice la ln lc], .int .i64 8]) ∧ Below w.heap.size w w' := by
  go_enter Try.func11, Try.ntmps11
  go_upto_region 1 with fail
  have b1 := (Below.refl w.heap.size w).alloc (Nat.le_refl _) (.cells #[.slice na nn nc, .slice sa sn sc, .slice la ln lc] 31)
  have X := hid ((Blk.alloc w #[.slice na nn nc, .slice sa sn sc, .slice la ln lc] (31)).below ((Below.refl _ _).alloc (Nat.le_refl _) (.cells #[.slice none 0 0, .slice none 0 0, .slice none 0 0] 31)))
  have Y := hid (Blk.alloc (w.alloc (.cells #[.slice na nn nc, .slice sa sn sc, .slice la ln lc] 31)) #[.slice none 0 0, .slice none 0 0, .slice none 0 0] (31))
  have B := hid (b1.alloc b1.size (.cells #[.slice none 0 0, .slice none 0 0, .slice none 0 0] 31))
  have s1 : (w.alloc (.cells #[.slice na nn nc, .slice sa sn sc, .slice la ln lc] 31)).heap.size = w.heap.size + 1 := by simp
  rw [s1] at Y
  clear b1 s1
  generalize ((w.alloc (.cells #[.slice na nn nc, .slice sa sn sc, .slice la ln lc] 31)).alloc (.cells #[.slice none 0 0, .slice none 0 0, .slice none 0 0] 31)) = W at *
  have LD := X.out.loadAt Try.underlying31 rfl sizeRdk
  have c0 := X.out.cellAt 0 _ rfl
  have BY := Y.out
  unfold Blk at BY
  by_cases h0 : n < 0
  · clear hn
    go_wp2_with (first | refine wpList_load_at 31 rfl (.tmp 3) rfl _ _ rfl _ LD ?_ | refine wpList_store_row rfl 31 (.tmp 6) (.tmp 19) rfl (w.heap.size + 1) #[.slice na nn nc, .slice sa sn sc, .slice la ln lc] rfl rfl 31 _ BY sizeRdk rfl (by simp [Value.oneCell']) ?_)
    refine bodyPost_ret (results_cell2 rfl rfl ((Y.out.row _).loadVar Try.underlying31 rfl sizeRdk)) rfl ?_
    exact ⟨rfl, setRow_below B.out (by omega)⟩
  · have h1 : (nn : Int) ≤ n := by omega
    clear hn
    go_wp2_with (first | refine wpList_load_at 31 rfl (.tmp 3) rfl _ _ rfl _ LD ?_ | refine wpList_store_row rfl 31 (.tmp 6) (.tmp 19) rfl (w.heap.size + 1) #[.slice na nn nc, .slice sa sn sc, .slice la ln lc] rfl rfl 31 _ BY sizeRdk rfl (by simp [Value.oneCell']) ?_)
    refine bodyPost_ret (results_cell2 rfl rfl ((Y.out.row _).loadVar Try.underlying31 rfl sizeRdk)) rfl ?_
    exact ⟨rfl, setRow_below B.out (by omega)⟩
set_option maxRecDepth 100000 in
set_option maxHeartbeats 4000000 in
theorem rput_long (na : Option Addr) (nn nc : Nat) (sa : Option Addr) (sn sc : Nat) (la : Option Addr) (ln lc : Nat) (n : Int) (pa : Option Addr) (pn pc : Nat) (w : World) (hn : 0 ≤ n ∧ n < (nn : Int)) (hp : 64 < pn) :
    Calls Try.prog 11 #[.agg #[.slice na nn nc, .slice sa sn sc, .slice la ln lc], .int .i64 n, .slice pa pn pc] w fun e w' => e = .returned (.tuple #[.agg #[.slice na nn nc, .slice sa sn sc, .slice la ln lc], .int .i64 3]) ∧ Below w.heap.size w w' := by
  obtain ⟨hn1, hn2⟩ := hn
  have h0 : ¬ n < 0 := by omega
  have h1 : ¬ (nn : Int) ≤ n := by omega
  have h2 : 64 < (pn : Int) := by omega
  go_enter Try.func11, Try.ntmps11
  go_upto_region 1 with fail
  have b1 := (Below.refl w.heap.size w).alloc (Nat.le_refl _) (.cells #[.slice na nn nc, .slice sa sn sc, .slice la ln lc] 31)
  have X := hid ((Blk.alloc w #[.slice na nn nc, .slice sa sn sc, .slice la ln lc] (31)).below ((Below.refl _ _).alloc (Nat.le_refl _) (.cells #[.slice none 0 0, .slice none 0 0, .slice none 0 0] 31)))
  have Y := hid (Blk.alloc (w.alloc (.cells #[.slice na nn nc, .slice sa sn sc, .slice la ln lc] 31)) #[.slice none 0 0, .slice none 0 0, .slice none 0 0] (31))
  have B := hid (b1.alloc b1.size (.cells #[.slice none 0 0, .slice none 0 0, .slice none 0 0] 31))
  have s1 : (w.alloc (.cells #[.slice na nn nc, .slice sa sn sc, .slice la ln lc] 31)).heap.size = w.heap.size + 1 := by simp
  rw [s1] at Y
  clear b1 s1
  generalize ((w.alloc (.cells #[.slice na nn nc, .slice sa sn sc, .slice la ln lc] 31)).alloc (.cells #[.slice none 0 0, .slice none 0 0, .slice none 0 0] 31)) = W at *
  have LD := X.out.loadAt Try.underlying31 rfl sizeRdk
  have c0 := X.out.cellAt 0 _ rfl
  have BY := Y.out
  unfold Blk at BY
  go_wp2_with (first | refine wpList_load_at 31 rfl (.tmp 3) rfl _ _ rfl _ LD ?_ | refine wpList_store_row rfl 31 (.tmp 6) (.tmp 24) rfl (w.heap.size + 1) #[.slice na nn nc, .slice sa sn sc, .slice la ln lc] rfl rfl 31 _ BY sizeRdk rfl (by simp [Value.oneCell']) ?_)
  refine bodyPost_ret (results_cell2 rfl rfl ((Y.out.row _).loadVar Try.underlying31 rfl sizeRdk)) rfl ?_
  exact ⟨rfl, setRow_below B.out (by omega)⟩
set_option maxRecDepth 100000 in
set_option maxHeartbeats 4000000 in
theorem rcrash_arg (na : Option Addr) (nn nc : Nat) (sa : Option Addr) (sn sc : Nat) (la : Option Addr) (ln lc : Nat) (kp : Int) (w : World) (hk : kp < 0) :
    Calls Try.prog 15 #[.agg #[.slice na nn nc, .slice sa sn sc, .slice la ln lc], .int .i64 kp] w fun e w' => e = .returned (.tuple #[.agg #[.slice na nn nc, .slice sa sn sc, .slice la ln lc], .int .i64 1]) ∧ Below w.heap.size w w' := by
  go_enter Try.func15, Try.ntmps15
  go_upto_region 1 with fail
  have b1 := (Below.refl w.heap.size w).alloc (Nat.le_refl _) (.cells #[.slice na nn nc, .slice sa sn sc, .slice la ln lc] 31)
  have X := hid ((Blk.alloc w #[.slice na nn nc, .slice sa sn sc, .slice la ln lc] (31)).below ((Below.refl _ _).alloc (Nat.le_refl _) (.cells #[.slice none 0 0, .slice none 0 0, .slice none 0 0] 31)))
  have Y := hid (Blk.alloc (w.alloc (.cells #[.slice na nn nc, .slice sa sn sc, .slice la ln lc] 31)) #[.slice none 0 0, .slice none 0 0, .slice none 0 0] (31))
  have B := hid (b1.alloc b1.size (.cells #[.slice none 0 0, .slice none 0 0, .slice none 0 0] 31))
  have s1 : (w.alloc (.cells #[.slice na nn nc, .slice sa sn sc, .slice la ln lc] 31)).heap.size = w.heap.size + 1 := by simp
  rw [s1] at Y
  clear b1 s1
  generalize ((w.alloc (.cells #[.slice na nn nc, .slice sa sn sc, .slice la ln lc] 31)).alloc (.cells #[.slice none 0 0, .slice none 0 0, .slice none 0 0] 31)) = W at *
  have LD := X.out.loadAt Try.underlying31 rfl sizeRdk
  have BY := Y.out
  unfold Blk at BY
  go_wp2_with (first | refine wpList_load_at 31 rfl (.tmp 2) rfl _ _ rfl _ LD ?_ | refine wpList_store_row rfl 31 (.tmp 4) (.tmp 11) rfl (w.heap.size + 1) #[.slice na nn nc, .slice sa sn sc, .slice la ln lc] rfl rfl 31 _ BY sizeRdk rfl (by simp [Value.oneCell']) ?_)
  refine bodyPost_ret (results_cell2 rfl rfl ((Y.out.row _).loadVar Try.underlying31 rfl sizeRdk)) rfl ?_
  exact ⟨rfl, setRow_below B.out (by omega)⟩
/-- The document's writes made anew. -/
def redo (sf : List Sl) (lo : List Wo) : List Sl := lo.foldl (fun s x => s.set x.n.toNat ⟨x.sa, x.sl, x.sc, x.p⟩) sf
theorem redo_len (sf : List Sl) (lo : List Wo) : (redo sf lo).length = sf.length := by
  unfold redo
  induction lo generalizing sf with
  | nil => rfl
  | cons x r ih => rw [List.foldl_cons, ih, List.length_set]
theorem redo_snoc (sf : List Sl) (lo : List Wo) (x : Wo) : redo sf (lo ++ [x]) = (redo sf lo).set x.n.toNat ⟨x.sa, x.sl, x.sc, x.p⟩ := by unfold redo; rw [List.foldl_append]; rfl
set_option maxRecDepth 100000 in
theorem sizeWo : (Try.prog.info? 63).map (·.size) = some 2 := by kernel_rfl
set_option maxRecDepth 100000 in
set_option maxHeartbeats 4000000 in
theorem rcrash_any (na : Option Addr) (nn nc : Nat) (sa : Option Addr) (sn sc : Nat) (sf : List Sl) (la : Option Addr) (ln lc : Nat) (lo : List Wo) (kp : Int) (w : World) (h : HoldsE 1 Sl.cs w sa sn sc sf) (hl : HoldsE 2 Wo.cs w la ln lc lo) (hs : 0 < sn) (hsn : sn ≤ 100000) (hln : ln ≤ 100000) (hk : 0 ≤ kp) (hx : ∀ x ∈ lo, 0 ≤ x.n ∧ x.n < sn) :
    Calls Try.prog 15 #[.agg #[.slice na nn nc, .slice sa sn sc, .slice la ln lc], .int .i64 kp] w fun e w' => ∃ qa qc ra rc, e = .returned (.tuple #[.agg #[.slice qa sn qc, .slice ra sn rc, .slice none 0 0], .int .i64 0]) ∧ HoldsE 1 Sl.cs w' qa sn qc (redo sf (lo.take kp.toNat)) ∧ HoldsE 1 Sl.cs w' ra sn rc (redo sf (lo.take kp.toNat)) ∧ Nw w.heap.size qa ∧ Nw w.heap.size ra ∧ Below w.heap.size w w' := by
  have HS := hid h
  have RL := hid (fun hp => hl.rangeAt hp)
  have LN := hid hl.1
  have HX := hid hx
  have hcap := h.2.1
  have k0 : ¬ kp < 0 := by omega
  clear h hl hx
  go_enter Try.func15, Try.ntmps15
  go_upto_region 3 with fail
  have b1 := (Below.refl w.heap.size w).alloc (Nat.le_refl _) (.cells #[.slice na nn nc, .slice sa sn sc, .slice la ln lc] 31)
  have X := hid ((Blk.alloc w #[.slice na nn nc, .slice sa sn sc, .slice la ln lc] (31)).below ((Below.refl _ _).alloc (Nat.le_refl _) (.cells #[.slice none 0 0, .slice none 0 0, .slice none 0 0] 31)))
  have Y := hid (Blk.alloc (w.alloc (.cells #[.slice na nn nc, .slice sa sn sc, .slice la ln lc] 31)) #[.slice none 0 0, .slice none 0 0, .slice none 0 0] (31))
  have B := hid (b1.alloc b1.size (.cells #[.slice none 0 0, .slice none 0 0, .slice none 0 0] 31))
  have s1 : (w.alloc (.cells #[.slice na nn nc, .slice sa sn sc, .slice la ln lc] 31)).heap.size = w.heap.size + 1 := by simp
  rw [s1] at Y
  clear b1 s1
  generalize ((w.alloc (.cells #[.slice na nn nc, .slice sa sn sc, .slice la ln lc] 31)).alloc (.cells #[.slice none 0 0, .slice none 0 0, .slice none 0 0] 31)) = W at *
  have c := X.out.cellAt 1 (.slice sa sn sc) rfl
  have b := (Below.refl W.heap.size W).alloc (Nat.le_refl _) (.cells #[] 34)
  have d := keepc b c
  have O0 := hid (OwnE.lit 34 1 Sl.cs W)
  have HSRC := hid ((HS.out).below (B.out.trans (b.mono B.out.size)))
  have XB := hid b
  clear c b
  go_wp2_with (at_builtin; refine cat_ownE 28 34 _ 24 Sl.cs_len Sl.one Try.underlying28 infoByt rfl (by decide) (W.alloc (.cells #[] 34)) rfl (.tmp 12) (.tmp 14) rfl W.heap.size 0 (.slice (some ⟨W.heap.size, 0, none⟩) 0 0) [] rfl O0.out (by simp) sa sn sc sf rfl HSRC.out (by omega) (by omega) ?_)
  intro vv W' h bb gg
  have hB := XB.out.trans (bb.mono (Nat.le_refl _))
  have sx := X.out.lt
  have sy := Y.out.lt
  have RQ : Hid (OwnE 34 1 Sl.cs (w.heap.size + 2) W' vv sn sf) := by unfold Hid; have := h.weaken (b' := w.heap.size + 2) (by omega); simpa using this
  replace X := hid (X.out.below hB)
  replace Y := hid (Y.out.below hB)
  replace B := hid (B.out.trans (hB.mono B.out.size))
  clear h bb gg hB d O0 HSRC XB sx sy
  obtain ⟨qa, qc, rfl⟩ := RQ.out.form
  obtain ⟨g, rfl, hg, _⟩ := own_some RQ.out (by omega)
  have c := X.out.cellAt 2 (.slice la ln lc) rfl
  go_wp2_with fail
  clear c
  go_loopw [19] (fun i wr => ∃ j : Nat, j ≤ ln ∧ i = .int .i64 (j : Int) ∧ Hid (Blk wr w.heap.size 31 #[.slice na nn nc, .slice sa sn sc, .slice la ln lc]) ∧ Hid (Blk wr (w.heap.size + 1) 31 #[.slice none 0 0, .slice none 0 0, .slice none 0 0]) ∧ Hid (OwnE 34 1 Sl.cs (w.heap.size + 2) wr (.slice (some ⟨g, 0, none⟩) sn qc) sn (redo sf ((lo.take kp.toNat).take j))) ∧ Hid (Below w.heap.size w wr)) (fun i _ => ln - (intOf i).toNat)
  case atStart => exact ⟨0, by omega, rfl, X, Y, (by rw [List.take_zero]; exact RQ), B⟩
  case round =>
    clear X Y RQ B
    obtain ⟨j, hj, rfl, X, Y, RQ, B⟩ := hrel
    have ja : (0 : Int) ≤ (j : Int) := by omega
    by_cases hlt : j < ln
    · have jb : (j : Int) < (ln : Int) := by omega
      have hlt' : j < lo.length := by rw [LN.out]; exact hlt
      obtain ⟨b, off, rfl, hbl, RI⟩ := RL.out (by omega)
      have RG := rangeAt_below (RI j lo[j] (List.getElem?_eq_getElem hlt')) B.out
      have hxj := HX.out _ (List.getElem_mem hlt')
      have TK : Hid ((j : Int) < kp → (lo.take kp.toNat).take (j + 1) = (lo.take kp.toNat).take j ++ [lo[j]]) := fun h => by
        have h1 : j < (lo.take kp.toNat).length := by rw [List.length_take]; omega
        rw [List.take_succ_eq_append_getElem h1]
        simp
      have TN : Hid (¬ (j : Int) < kp → (lo.take kp.toNat).take (j + 1) = (lo.take kp.toNat).take j) := fun h => by
        have h1 : (lo.take kp.toNat).length ≤ j := by rw [List.length_take]; omega
        exact (List.take_of_length_le (i := j + 1) (l := lo.take kp.toNat) (by omega)).trans (List.take_of_length_le (i := j) (l := lo.take kp.toNat) h1).symm
      clear RI
      generalize lo[j] = x at *
      obtain ⟨xn, xa, xl, xc, xp⟩ := x
      obtain ⟨p, rfl⟩ : ∃ p : Nat, xn = (p : Int) := ⟨xn.toNat, by have := hxj.1; simp only at this; omega⟩
      have pN : p < sn := by have := hxj.2; simp only at this; omega
      have pa : (0 : Int) ≤ (p : Int) := by omega
      have pb : (p : Int) < (sn : Int) := by omega
      have HO1 := hid (all_oneCell_toArray (Wo.one ⟨(p : Int), xa, xl, xc, xp⟩))
      have c := X.out.cellAt 2 _ rfl
      clear hxj
      go_upto_region 7 with (first | refine wpList_load_mid rfl 63 (.tmp 22) rfl _ _ rfl [.int .i64 (p : Int), .slice xa xl xc] _ RG Try.underlying63 rfl sizeWo ?_ | refine wpList_store_row rfl 63 (.tmp 8) (.tmp 23) rfl wr.heap.size #[.int .i64 (p : Int), .slice xa xl xc] rfl rfl 63 _ (heap_alloc_new wr _) sizeWo rfl HO1.out ?_)
      rw [alloc_row]
      have b1 := (Below.refl wr.heap.size wr).alloc (Nat.le_refl _) (.cells #[.int .i64 (p : Int), .slice xa xl xc] 63)
      have V := hid (Blk.alloc wr #[.int .i64 (p : Int), .slice xa xl xc] (63))
      replace X := hid (X.out.below b1)
      replace Y := hid (Y.out.below b1)
      replace RQ := hid (RQ.out.below b1)
      replace B := hid (B.out.trans (b1.mono B.out.size))
      clear b1 RG c
      generalize wr.alloc (.cells #[.int .i64 (p : Int), .slice xa xl xc] 63) = w2 at *
      generalize wr.heap.size = Q at *
      by_cases hc : (j : Int) < kp
      · have y0 := V.out.cellAt 0 _ rfl
        have y1 := V.out.cellAt 1 _ rfl
        obtain ⟨g', e', _, cur, cb, csz⟩ := own_some RQ.out (by omega)
        cases e'
        have hcs : sn ≤ qc := RQ.out.holds (enc := Sl.cs) Sl.cs_len |>.2.1
        have hkc : p < cur.size := by omega
        obtain ⟨ov, y⟩ : ∃ v, w2.cell? ⟨g, p, none⟩ = some v := ⟨_, cb.cellAt p cur[p] (Array.getElem?_eq_getElem hkc)⟩
        have ff : w2.frozen? ⟨g, p, none⟩ = false := cb.froz
        have TKK := hid (TK.out hc)
        clear cb csz hcs hkc TK TN
        go_upto_region 9 with fail
        replace X := hid (X.out.cellO ⟨g, p, none⟩ (.slice xa xl xc) (by show w.heap.size ≠ g; omega))
        replace Y := hid (Y.out.cellO ⟨g, p, none⟩ (.slice xa xl xc) (by show w.heap.size + 1 ≠ g; omega))
        replace RQ := hid (own_set RQ.out p ⟨xa, xl, xc, xp⟩)
        replace B := hid (B.out.setCell (p := ⟨g, p, none⟩) (by show w.heap.size ≤ g; omega) (.slice xa xl xc))
        clear y0 y1 y ff V
        generalize w2.setCell ⟨g, p, none⟩ (.slice xa xl xc) = w5 at *
        go_wp2_with fail
        refine ⟨⟨j + 1, by omega, by go_num, X, Y, (by rw [TKK.out, redo_snoc]; exact RQ), B⟩, ?_⟩
        simp [intOf]
        try omega
      · have TKK := hid (TN.out hc)
        clear TK TN V
        go_wp2_with fail
        refine ⟨⟨j + 1, by omega, by go_num, X, Y, (by rw [TKK.out]; exact RQ), B⟩, ?_⟩
        simp [intOf]
        try omega
    · have jb : ¬ (j : Int) < (ln : Int) := by omega
      have eT : Hid ((lo.take kp.toNat).take j = lo.take kp.toNat) := List.take_of_length_le (by rw [List.length_take, LN.out]; omega)
      rw [eT.out] at RQ
      clear hlt eT
      have b := (Below.refl wr.heap.size wr).alloc (Nat.le_refl _) (.cells #[] 34)
      have O0 := hid (OwnE.lit 34 1 Sl.cs wr)
      have HSRC := hid ((RQ.out.holds Sl.cs_len).below b)
      have hqc : qc ≤ 9223372036854775807 := (RQ.out.holds (enc := Sl.cs) Sl.cs_len).2.2.1
      have XB := hid b
      clear b
      go_wp2_with (at_builtin; refine cat_ownE 28 34 _ 24 Sl.cs_len Sl.one Try.underlying28 infoByt rfl (by decide) (wr.alloc (.cells #[] 34)) rfl (.tmp 35) (.tmp 36) rfl wr.heap.size 0 (.slice (some ⟨wr.heap.size, 0, none⟩) 0 0) [] rfl O0.out (by simp) (some ⟨g, 0, none⟩) sn qc (redo sf (lo.take kp.toNat)) rfl HSRC.out (by omega) (by omega) ?_)
      intro vv W7 h bb gg
      have hB := XB.out.trans (bb.mono (Nat.le_refl _))
      have sx := X.out.lt
      have sy := Y.out.lt
      have RR : Hid (OwnE 34 1 Sl.cs (w.heap.size + 2) W7 vv sn (redo sf (lo.take kp.toNat))) := by unfold Hid; have := h.weaken (b' := w.heap.size + 2) (by omega); simpa using this
      replace X := hid (X.out.below hB)
      replace Y := hid (Y.out.below hB)
      replace RQ := hid (RQ.out.below hB)
      replace B := hid (B.out.trans (hB.mono B.out.size))
      clear h bb gg hB O0 HSRC XB sx sy hqc
      obtain ⟨ra, rc, rfl⟩ := RR.out.form
      have BY := Y.out
      unfold Blk at BY
      go_wp2_with (first | refine wpList_built rfl 31 _ rfl #[.slice (some ⟨g, 0, none⟩) sn qc, .slice ra sn rc, .slice none 0 0] (by kernel_rfl) ?_ | refine wpList_store_row rfl 31 (.tmp 4) (.tmp 38) rfl (w.heap.size + 1) #[.slice (some ⟨g, 0, none⟩) sn qc, .slice ra sn rc, .slice none 0 0] rfl rfl 31 _ BY sizeRdk rfl (by simp [Value.oneCell']) ?_)
      refine bodyPost_ret (results_cell2 rfl rfl ((Y.out.row _).loadVar Try.underlying31 rfl sizeRdk)) rfl ?_
      exact ⟨some ⟨g, 0, none⟩, qc, ra, rc, rfl, (RQ.out.row (q := w.heap.size + 1) (by omega) _).holds Sl.cs_len, (RR.out.row (q := w.heap.size + 1) (by omega) _).holds Sl.cs_len, RQ.out.nw (by omega), RR.out.nw (by omega), setRow_below B.out (by omega)⟩
end Go.Proofs.Ytpkifcoichjnbaa

namespace Go.Proofs.Ytpkifcoichjnbaa
open Go.RowKit Go.Deep Go.Maps
set_option linter.unusedVariables false
set_option linter.unusedSimpArgs false
set_option maxRecDepth 100000 in
set_option maxHeartbeats 4000000 in
theorem rnew_bad (n : Int) (w : World) (h : n < 1 ∨ 65536 < n) :
    Calls Try.prog 9 #[.int .i64 n] w fun e w' => e = .returned (.tuple #[.agg #[.slice none 0 0, .slice none 0 0, .slice none 0 0], .int .i64 1]) ∧ Below w.heap.size w w' := by
  go_enter Try.func9, Try.ntmps9
  go_upto_region 1 with fail
  have B := hid ((Below.refl w.heap.size w).alloc (Nat.le_refl _) (.cells #[.slice none 0 0, .slice none 0 0, .slice none 0 0] 31))
  have Y := hid (Blk.alloc w #[.slice none 0 0, .slice none 0 0, .slice none 0 0] (31))
  generalize (w.alloc (.cells #[.slice none 0 0, .slice none 0 0, .slice none 0 0] 31)) = W at *
  have BY := Y.out
  unfold Blk at BY
  by_cases h1 : n < 1
  · clear h
    go_wp2_with (first | refine wpList_built rfl 31 _ rfl #[.slice none 0 0, .slice none 0 0, .slice none 0 0] (by kernel_rfl) ?_ | refine wpList_store_row rfl 31 (.tmp 2) (.tmp 11) rfl w.heap.size #[.slice none 0 0, .slice none 0 0, .slice none 0 0] rfl rfl 31 _ BY sizeRdk rfl (by simp [Value.oneCell']) ?_)
    refine bodyPost_ret (results_cell2 rfl rfl ((Y.out.row _).loadVar Try.underlying31 rfl sizeRdk)) rfl ?_
    exact ⟨rfl, setRow_below B.out (by omega)⟩
  · have h2 : 65536 < n := by omega
    clear h
    go_wp2_with (first | refine wpList_built rfl 31 _ rfl #[.slice none 0 0, .slice none 0 0, .slice none 0 0] (by kernel_rfl) ?_ | refine wpList_store_row rfl 31 (.tmp 2) (.tmp 11) rfl w.heap.size #[.slice none 0 0, .slice none 0 0, .slice none 0 0] rfl rfl 31 _ BY sizeRdk rfl (by simp [Value.oneCell']) ?_)
    refine bodyPost_ret (results_cell2 rfl rfl ((Y.out.row _).loadVar Try.underlying31 rfl sizeRdk)) rfl ?_
    exact ⟨rfl, setRow_below B.out (by omega)⟩
set_option maxRecDepth 100000 in
set_option maxHeartbeats 4000000 in
theorem rnew_any (n : Nat) (w : World) (h1 : 1 ≤ n) (h2 : n ≤ 65536) :
    Calls Try.prog 9 #[.int .i64 (n : Int)] w fun e w' => ∃ na nc sa sc, e = .returned (.tuple #[.agg #[.slice na n nc, .slice sa n sc, .slice none 0 0], .int .i64 0]) ∧ HoldsE 1 Sl.cs w' na n nc (List.replicate n sl0) ∧ HoldsE 1 Sl.cs w' sa n sc (List.replicate n sl0) ∧ Nw w.heap.size na ∧ Nw w.heap.size sa ∧ Below w.heap.size w w' := by
  have t1 : ¬ (n : Int) < 1 := by omega
  have t2 : ¬ 65536 < (n : Int) := by omega
  go_enter Try.func9, Try.ntmps9
  go_upto_region 1 with fail
  have B := hid ((Below.refl w.heap.size w).alloc (Nat.le_refl _) (.cells #[.slice none 0 0, .slice none 0 0, .slice none 0 0] 31))
  have Y := hid (Blk.alloc w #[.slice none 0 0, .slice none 0 0, .slice none 0 0] (31))
  have s1 : (w.alloc (.cells #[.slice none 0 0, .slice none 0 0, .slice none 0 0] 31)).heap.size = w.heap.size + 1 := by simp
  generalize (w.alloc (.cells #[.slice none 0 0, .slice none 0 0, .slice none 0 0] 31)) = W at *
  go_upto_region 4 with (first | refine wpList_built rfl 31 _ rfl #[.slice none 0 0, .slice none 0 0, .slice none 0 0] (by kernel_rfl) ?_ | refine wpList_store_row rfl 31 (.tmp 4) (.tmp 12) rfl W.heap.size #[.slice none 0 0, .slice none 0 0, .slice none 0 0] rfl rfl 31 _ (heap_alloc_new W _) sizeRdk rfl (by simp [Value.oneCell']) ?_)
  have b2 := (Below.refl W.heap.size W).alloc (Nat.le_refl _) (.cells #[.slice none 0 0, .slice none 0 0, .slice none 0 0] 31)
  have X := hid (Blk.alloc W #[.slice none 0 0, .slice none 0 0, .slice none 0 0] (31))
  replace Y := hid (Y.out.below b2)
  replace B := hid (B.out.alloc B.out.size (.cells #[.slice none 0 0, .slice none 0 0, .slice none 0 0] 31))
  rw [s1] at X
  have s2 : Hid (w.heap.size + 2 ≤ (W.alloc (.cells #[.slice none 0 0, .slice none 0 0, .slice none 0 0] 31)).heap.size) := by unfold Hid; simp; omega
  clear b2 s1
  generalize (W.alloc (.cells #[.slice none 0 0, .slice none 0 0, .slice none 0 0] 31)) = W2 at *
  go_wp2_with fail
  go_loopw [14] (fun i wr => ∃ j : Nat, j ≤ n ∧ i = .int .i64 (j : Int) ∧ ∃ va vc, Hid (OwnE 34 1 Sl.cs (w.heap.size + 2) wr (.slice va j vc) j (List.replicate j sl0)) ∧ Hid (Blk wr (w.heap.size + 1) 31 #[.slice va j vc, .slice none 0 0, .slice none 0 0]) ∧ Hid (Blk wr w.heap.size 31 #[.slice none 0 0, .slice none 0 0, .slice none 0 0]) ∧ Hid (Below w.heap.size w wr) ∧ Hid (w.heap.size + 2 ≤ wr.heap.size)) (fun i _ => n - (intOf i).toNat)
  case atStart => exact ⟨0, by omega, rfl, none, 0, OwnE.nil _ _ _ _ _, X, Y, B, s2⟩
  case round =>
    clear X Y B s2
    obtain ⟨j, hj, rfl, va, vc, O, X, Y, B, s⟩ := hrel
    have ja : (0 : Int) ≤ (j : Int) := by omega
    by_cases hlt : j < n
    · have jb : (j : Int) < (n : Int) := by omega
      have SNO : Hid (List.replicate (j + 1) sl0 = List.replicate j sl0 ++ [sl0]) := by unfold Hid; rw [List.replicate_succ']
      have y := X.out.cellAt 0 _ rfl
      have ss := s.out
      go_wp2_with (at_builtin; refine push_ownE 28 34 _ 24 Sl.cs_len Sl.one Try.underlying28 infoByt rfl (by decide) wr sl0 rfl (.tmp 17) (.tmp 18) rfl (w.heap.size + 2) j (.slice va j vc) (List.replicate j sl0) #[.slice none 0 0] rfl rfl O.out ss (by simp [Act.eval]) (by omega) (by omega) ?_)
      intro v4 w4 h4 b4 g4
      replace X := hid (X.out.growN O.out (by decide) g4)
      replace Y := hid (Y.out.growN O.out (by decide) g4)
      replace B := hid (B.out.trans (b4.mono (by omega)))
      replace s : Hid (w.heap.size + 2 ≤ w4.heap.size) := by unfold Hid; have := b4.size; omega
      replace O := hid h4
      clear h4 b4 g4 y ss
      obtain ⟨va4, vc4, rfl⟩ := O.out.form
      have y := X.out.cellAt 0 _ rfl
      have ff : w4.frozen? ⟨w.heap.size + 1, 0, none⟩ = false := X.out.froz
      go_upto_region 7 with fail
      replace X : Hid (Blk (w4.setCell ⟨w.heap.size + 1, 0, none⟩ (.slice va4 (j + 1) vc4)) (w.heap.size + 1) 31 #[.slice va4 (j + 1) vc4, .slice none 0 0, .slice none 0 0]) := X.out.put (i := 0) (.slice va4 (j + 1) vc4)
      replace Y := hid (Y.out.cellO ⟨w.heap.size + 1, 0, none⟩ (.slice va4 (j + 1) vc4) (by show w.heap.size ≠ w.heap.size + 1; omega))
      replace O := hid (O.out.cellO ⟨w.heap.size + 1, 0, none⟩ (.slice va4 (j + 1) vc4) (by show w.heap.size + 1 < w.heap.size + 2; omega))
      replace B := hid (B.out.setCell (p := ⟨w.heap.size + 1, 0, none⟩) (by show w.heap.size ≤ w.heap.size + 1; omega) (.slice va4 (j + 1) vc4))
      replace s : Hid (w.heap.size + 2 ≤ (w4.setCell ⟨w.heap.size + 1, 0, none⟩ (.slice va4 (j + 1) vc4)).heap.size) := by unfold Hid; have := s.out; simpa using this
      clear y ff
      generalize w4.setCell ⟨w.heap.size + 1, 0, none⟩ (.slice va4 (j + 1) vc4) = w5 at *
      go_wp2_with fail
      refine ⟨⟨j + 1, by omega, by go_num, va4, vc4, (by rw [SNO.out]; exact O), X, Y, B, s⟩, ?_⟩
      simp [intOf]
      try omega
    · have jb : ¬ (j : Int) < (n : Int) := by omega
      obtain rfl : n = j := by omega
      clear hlt
      have c := X.out.cellAt 0 _ rfl
      have b := (Below.refl wr.heap.size wr).alloc (Nat.le_refl _) (.cells #[] 34)
      have d := keepc b c
      have O0 := hid (OwnE.lit 34 1 Sl.cs wr)
      have HSRC := hid ((O.out.holds Sl.cs_len).below b)
      have hqc : vc ≤ 9223372036854775807 := (O.out.holds (enc := Sl.cs) Sl.cs_len).2.2.1
      have XB := hid b
      clear c b
      go_wp2_with (at_builtin; refine cat_ownE 28 34 _ 24 Sl.cs_len Sl.one Try.underlying28 infoByt rfl (by decide) (wr.alloc (.cells #[] 34)) rfl (.tmp 22) (.tmp 24) rfl wr.heap.size 0 (.slice (some ⟨wr.heap.size, 0, none⟩) 0 0) [] rfl O0.out (by simp) va n vc (List.replicate n sl0) rfl HSRC.out (by omega) (by omega) ?_)
      intro vv W7 h bb gg
      have hB := XB.out.trans (bb.mono (Nat.le_refl _))
      have sx := s.out
      have RR : Hid (OwnE 34 1 Sl.cs (w.heap.size + 2) W7 vv n (List.replicate n sl0)) := by unfold Hid; have := h.weaken (b' := w.heap.size + 2) (by omega); simpa using this
      replace X := hid (X.out.below hB)
      replace Y := hid (Y.out.below hB)
      replace O := hid (O.out.below hB)
      replace B := hid (B.out.trans (hB.mono B.out.size))
      clear h bb gg hB O0 HSRC XB sx hqc d
      obtain ⟨ra, rc, rfl⟩ := RR.out.form
      have y := X.out.cellAt 1 _ rfl
      have ff : W7.frozen? ⟨w.heap.size + 1, 1, none⟩ = false := X.out.froz
      go_upto_region 9 with fail
      replace X : Hid (Blk (W7.setCell ⟨w.heap.size + 1, 1, none⟩ (.slice ra n rc)) (w.heap.size + 1) 31 #[.slice va n vc, .slice ra n rc, .slice none 0 0]) := X.out.put (i := 1) (.slice ra n rc)
      replace Y := hid (Y.out.cellO ⟨w.heap.size + 1, 1, none⟩ (.slice ra n rc) (by show w.heap.size ≠ w.heap.size + 1; omega))
      replace O := hid (O.out.cellO ⟨w.heap.size + 1, 1, none⟩ (.slice ra n rc) (by show w.heap.size + 1 < w.heap.size + 2; omega))
      replace RR := hid (RR.out.cellO ⟨w.heap.size + 1, 1, none⟩ (.slice ra n rc) (by show w.heap.size + 1 < w.heap.size + 2; omega))
      replace B := hid (B.out.setCell (p := ⟨w.heap.size + 1, 1, none⟩) (by show w.heap.size ≤ w.heap.size + 1; omega) (.slice ra n rc))
      clear y ff s
      generalize W7.setCell ⟨w.heap.size + 1, 1, none⟩ (.slice ra n rc) = W8 at *
      have LD := X.out.loadAt Try.underlying31 rfl sizeRdk
      have BY := Y.out
      unfold Blk at BY
      go_wp2_with (first | refine wpList_load_at 31 rfl (.tmp 4) rfl _ _ rfl _ LD ?_ | refine wpList_store_row rfl 31 (.tmp 2) (.tmp 27) rfl w.heap.size #[.slice va n vc, .slice ra n rc, .slice none 0 0] rfl rfl 31 _ BY sizeRdk rfl (by simp [Value.oneCell']) ?_)
      refine bodyPost_ret (results_cell2 rfl rfl ((Y.out.row _).loadVar Try.underlying31 rfl sizeRdk)) rfl ?_
      exact ⟨va, vc, ra, rc, rfl, (O.out.row (q := w.heap.size) (by omega) _).holds Sl.cs_len, (RR.out.row (q := w.heap.size) (by omega) _).holds Sl.cs_len, O.out.nw (by omega), RR.out.nw (by omega), setRow_below B.out (by omega)⟩
end Go.Proofs.Ytpkifcoichjnbaa

namespace Go.Proofs.Ytpkifcoichjnbaa
open Go.RowKit Go.Deep Go.Maps
set_option linter.unusedVariables false
set_option linter.unusedSimpArgs false
/-- Nothing of it lies in G. -/
def Ot (G : Nat → Prop) (a : Option Addr) (n : Nat) : Prop := ∀ b o, a = some ⟨b, o, none⟩ → 0 < n → ¬ G b
theorem HoldsE.onl {α : Type} {k : Nat} {enc : α → List Value} {G : Nat → Prop} {A B : World} {a : Option Addr} {n c : Nat} {l : List α} (h : HoldsE k enc A a n c l) (o : Onl G A B) (hg : Ot G a n) : HoldsE k enc B a n c l := by
  obtain ⟨h1, h2, h3, h4, h5⟩ := h
  refine ⟨h1, h2, h3, h4, fun hp => ?_⟩
  obtain ⟨b, off, e, hlt, hc⟩ := h5 hp
  refine ⟨b, off, e, Nat.lt_of_lt_of_le hlt o.size, fun j x hx i v hv => ?_⟩
  rw [← hc j x hx i v hv]
  exact World.cell?_of_block (o.block b hlt (hg b off e hp))
theorem holdsE_lt {α : Type} {k : Nat} {enc : α → List Value} {w : World} {a : Option Addr} {n c : Nat} {l : List α} (h : HoldsE k enc w a n c l) {b o : Nat} (e : a = some ⟨b, o, none⟩) (hp : 0 < n) : b < w.heap.size := by
  obtain ⟨b', off, e', hlt, _⟩ := h.2.2.2.2 hp
  rw [e] at e'
  cases e'
  exact hlt
theorem Onl.mono {F G : Nat → Prop} {A B : World} (h : Onl F A B) (k : ∀ q, F q → G q) : Onl G A B := ⟨h.os, h.tape, h.output, h.size, fun q hq hn => h.block q hq (fun hf => hn (k q hf))⟩
theorem Nw.ot {G : Nat → Prop} {W : World} {a : Option Addr} {n : Nat} (h : Nw W.heap.size a) (hg : ∀ q, G q → q < W.heap.size) : Ot G a n := fun b o e _ hb => by
  have := h b o e
  have := hg b hb
  omega
structure Rf (G : Nat → Prop) (W : World) (N : Nat) (na : Option Addr) (nc : Nat) (sa : Option Addr) (sc : Nat) (la : Option Addr) (lc : Nat) (now safe : List Sl) (lo : List Wo) : Prop where
  hn : HoldsE 1 Sl.cs W na N nc now
  hs : HoldsE 1 Sl.cs W sa N sc safe
  hl : HoldsE 2 Wo.cs W la lo.length lc lo
  on : Ot G na N
  os : Ot G sa N
  ol : Ot G la lo.length
  en : ∀ x ∈ now, HoldsB W x.sa x.sl x.sc x.p ∧ Ot G x.sa x.sl
  es : ∀ x ∈ safe, HoldsB W x.sa x.sl x.sc x.p ∧ Ot G x.sa x.sl
  el : ∀ x ∈ lo, HoldsB W x.sa x.sl x.sc x.p ∧ Ot G x.sa x.sl
section
variable {G G' : Nat → Prop} {W W' : World} {N : Nat} {na : Option Addr} {nc : Nat} {sa : Option Addr} {sc : Nat} {la : Option Addr} {lc : Nat} {now safe : List Sl} {lo : List Wo}
theorem Rf.onl (h : Rf G W N na nc sa sc la lc now safe lo) (o : Onl G W W') : Rf G W' N na nc sa sc la lc now safe lo :=
  ⟨h.hn.onl o h.on, h.hs.onl o h.os, h.hl.onl o h.ol, h.on, h.os, h.ol, fun x hx => ⟨holdsB_onl (h.en x hx).1 o (h.en x hx).2, (h.en x hx).2⟩, fun x hx => ⟨holdsB_onl (h.es x hx).1 o (h.es x hx).2, (h.es x hx).2⟩, fun x hx => ⟨holdsB_onl (h.el x hx).1 o (h.el x hx).2, (h.el x hx).2⟩⟩
theorem ot_grow {a : Option Addr} {n : Nat} (h : Ot G a n) (hl : ∀ b o, a = some ⟨b, o, none⟩ → 0 < n → b < W.heap.size) (k : ∀ q, G' q → G q ∨ W.heap.size ≤ q) : Ot G' a n := fun b o e hp hg => (k b hg).elim (h b o e hp) (fun x => by have := hl b o e hp; omega)
theorem Rf.grow (h : Rf G W N na nc sa sc la lc now safe lo) (k : ∀ q, G' q → G q ∨ W.heap.size ≤ q) : Rf G' W N na nc sa sc la lc now safe lo :=
  ⟨h.hn, h.hs, h.hl, ot_grow h.on (fun b o e hp => holdsE_lt h.hn e hp) k, ot_grow h.os (fun b o e hp => holdsE_lt h.hs e hp) k, ot_grow h.ol (fun b o e hp => holdsE_lt h.hl e hp) k, fun x hx => ⟨(h.en x hx).1, ot_grow (h.en x hx).2 (fun b o e hp => holdsB_lt (h.en x hx).1 e hp) k⟩, fun x hx => ⟨(h.es x hx).1, ot_grow (h.es x hx).2 (fun b o e hp => holdsB_lt (h.es x hx).1 e hp) k⟩, fun x hx => ⟨(h.el x hx).1, ot_grow (h.el x hx).2 (fun b o e hp => holdsB_lt (h.el x hx).1 e hp) k⟩⟩
end
/-- Both disks: the program's, the document's, and blocks E that the walk itself holds. -/
def Sa (w W : World) (E : Nat → Prop) (D N : Nat) (bs : List (List Int)) (ls : List Ws) (na : Option Addr) (nc : Nat) (sa : Option Addr) (sc : Nat) (la : Option Addr) (lc : Nat) (now safe : List Sl) (lo : List Wo) : Prop :=
  ∃ F G : Nat → Prop, Dk F W D bs ls ∧ (∀ q, F q → w.heap.size ≤ q) ∧ Below w.heap.size w W ∧ (∀ q, F q → G q) ∧ (∀ q, G q → q < W.heap.size) ∧ (∀ q, E q → G q ∧ ¬ F q ∧ w.heap.size ≤ q) ∧ Rf G W N na nc sa sc la lc now safe lo
section
variable {w W W' : World} {E E' : Nat → Prop} {D N : Nat} {bs : List (List Int)} {ls : List Ws} {na : Option Addr} {nc : Nat} {sa : Option Addr} {sc : Nat} {la : Option Addr} {lc : Nat} {now safe : List Sl} {lo : List Wo}
theorem Sa.bel (h : Sa w W E D N bs ls na nc sa sc la lc now safe lo) : Below w.heap.size w W := by obtain ⟨_, _, _, _, h, _⟩ := h; exact h
theorem Sa.mono (h : Sa w W E D N bs ls na nc sa sc la lc now safe lo) (k : ∀ q, E' q → E q) : Sa w W E' D N bs ls na nc sa sc la lc now safe lo := by
  obtain ⟨F, G, h1, h2, h3, h4, h5, h6, h7⟩ := h
  exact ⟨F, G, h1, h2, h3, h4, h5, fun q hq => h6 q (k q hq), h7⟩
theorem Sa.below (h : Sa w W E D N bs ls na nc sa sc la lc now safe lo) (k : Below W.heap.size W W') : Sa w W' E D N bs ls na nc sa sc la lc now safe lo := by
  obtain ⟨F, G, h1, h2, h3, h4, h5, h6, h7⟩ := h
  exact ⟨F, G, h1.below k, h2, h3.trans (k.mono h3.size), h4, fun q hq => Nat.lt_of_lt_of_le (h5 q hq) k.size, h6, h7.onl (Onl.of_below k)⟩
/-- What has come is held too. -/
theorem Sa.fresh (h : Sa w W E D N bs ls na nc sa sc la lc now safe lo) (k : Below W.heap.size W W') (hE : ∀ q, E' q → E q ∨ (W.heap.size ≤ q ∧ q < W'.heap.size)) : Sa w W' E' D N bs ls na nc sa sc la lc now safe lo := by
  obtain ⟨F, G, h1, h2, h3, h4, h5, h6, h7⟩ := h
  refine ⟨F, fun q => G q ∨ (W.heap.size ≤ q ∧ q < W'.heap.size), h1.below k, h2, h3.trans (k.mono h3.size), fun q hq => .inl (h4 q hq), fun q hq => hq.elim (fun x => Nat.lt_of_lt_of_le (h5 q x) k.size) (·.2), fun q hq => ?_, (h7.grow (G' := fun q => G q ∨ (W.heap.size ≤ q ∧ q < W'.heap.size)) (fun q hq => hq.elim .inl (fun x => .inr x.1))).onl (Onl.of_below k)⟩
  rcases hE q hq with hq | hq
  · exact ⟨.inl (h6 q hq).1, (h6 q hq).2⟩
  · exact ⟨.inr hq, fun hf => by have := h1.lt q hf; omega, by have := h3.size; omega⟩
/-- What the walk holds is turned. -/
theorem Sa.onl (h : Sa w W E D N bs ls na nc sa sc la lc now safe lo) (o : Onl E W W') : Sa w W' E D N bs ls na nc sa sc la lc now safe lo := by
  obtain ⟨F, G, h1, h2, h3, h4, h5, h6, h7⟩ := h
  exact ⟨F, G, h1.onl o (fun q hf he => (h6 q he).2.1 hf), h2, o.below h3 (fun q hq => (h6 q hq).2.2), h4, fun q hq => Nat.lt_of_lt_of_le (h5 q hq) o.size, h6, h7.onl (o.mono (fun q hq => (h6 q hq).1))⟩
theorem sa_write (h : Sa w W E D N bs ls na nc sa sc la lc now safe lo) (n : Int) {pa : Option Addr} {pn pc : Nat} {l : List Int} (hl : HoldsB W pa pn pc l) (he : ∀ b o, pa = some ⟨b, o, none⟩ → 0 < pn → E b) (hm : ls.length ≤ 1000000) :
    Calls Try.prog 10 #[.pointer (some ⟨D, 0, none⟩), .int .i64 n, .slice pa pn pc] W fun e w' => e = .returned (.int .i64 (wE bs.length n l.length)) ∧ Sa w w' E D N (wB bs n l) (wL bs ls n l) na nc sa sc la lc now safe lo ∧ (∀ q, E q → w'.heap[q]? = W.heap[q]?) ∧ W.heap.size ≤ w'.heap.size := by
  obtain ⟨F, G, h1, h2, h3, h4, h5, h6, h7⟩ := h
  refine (write_op F D bs ls n pa pn pc l W h1 hl (fun b o e hp hf => (h6 b (he b o e hp)).2.1 hf) hm).mono ?_
  rintro e w' ⟨rfl, ⟨F', hd, hs⟩, ho⟩
  have hg : ∀ q, (G q ∨ F' q) → G q ∨ W.heap.size ≤ q := fun q hq => hq.elim .inl (fun x => (hs q x).elim (fun y => .inl (h4 q y)) .inr)
  refine ⟨rfl, ⟨F', fun q => G q ∨ F' q, hd, fun q hq => (hs q hq).elim (h2 q) (fun x => by have := h3.size; omega), ho.below h3 h2, fun q hq => .inr hq, fun q hq => hq.elim (fun x => Nat.lt_of_lt_of_le (h5 q x) ho.size) (hd.lt q), fun q hq => ⟨.inl (h6 q hq).1, fun hf => (hs q hf).elim (h6 q hq).2.1 (fun x => by have := h5 q (h6 q hq).1; omega), (h6 q hq).2.2⟩, (h7.grow (G' := fun q => G q ∨ F' q) hg).onl (ho.mono (fun q hq => .inl (h4 q hq)))⟩, fun q hq => ho.block q (h5 q (h6 q hq).1) (h6 q hq).2.1, ho.size⟩
theorem sa_sync (h : Sa w W E D N bs ls na nc sa sc la lc now safe lo) :
    Calls Try.prog 12 #[.pointer (some ⟨D, 0, none⟩)] W fun e w' => e = .returned (.int .i64 0) ∧ Sa w w' E D N bs [] na nc sa sc la lc now safe lo ∧ (∀ q, E q → w'.heap[q]? = W.heap[q]?) ∧ W.heap.size ≤ w'.heap.size := by
  obtain ⟨F, G, h1, h2, h3, h4, h5, h6, h7⟩ := h
  refine (sync_any F D bs ls W h1).mono ?_
  rintro e w' ⟨rfl, hd, ho⟩
  exact ⟨rfl, ⟨F, G, hd, h2, ho.below h3 h2, h4, fun q hq => Nat.lt_of_lt_of_le (h5 q hq) ho.size, h6, h7.onl (ho.mono h4)⟩, fun q hq => ho.block q (h5 q (h6 q hq).1) (h6 q hq).2.1, ho.size⟩
theorem sa_crash (h : Sa w W E D N bs ls na nc sa sc la lc now safe lo) (kp : Int) (h0 : 0 ≤ kp) (h1' : kp ≤ 9223372036854775807) (hx : ∀ x ∈ ls, 0 ≤ x.n ∧ x.n < bs.length) (hm : ls.length ≤ 1000000) :
    Calls Try.prog 14 #[.pointer (some ⟨D, 0, none⟩), .int .i64 kp] W fun e w' => e = .returned (.int .i64 0) ∧ Sa w w' E D N (und bs (ls.drop kp.toNat)) [] na nc sa sc la lc now safe lo ∧ (∀ q, E q → w'.heap[q]? = W.heap[q]?) ∧ W.heap.size ≤ w'.heap.size := by
  obtain ⟨F, G, h1, h2, h3, h4, h5, h6, h7⟩ := h
  refine (crash_any F D bs ls kp W h1 h0 h1' hx hm).mono ?_
  rintro e w' ⟨rfl, hd, ho⟩
  exact ⟨rfl, ⟨F, G, hd, h2, ho.below h3 h2, h4, fun q hq => Nat.lt_of_lt_of_le (h5 q hq) ho.size, h6, h7.onl (ho.mono h4)⟩, fun q hq => ho.block q (h5 q (h6 q hq).1) (h6 q hq).2.1, ho.size⟩
theorem sa_dk (h : Sa w W E D N bs ls na nc sa sc la lc now safe lo) : ∃ F, Dk F W D bs ls := by obtain ⟨F, G, h1, _⟩ := h; exact ⟨F, h1⟩
theorem sa_put (h : Sa w W E D N bs ls na nc sa sc la lc now safe lo) (k : Nat) {pa : Option Addr} {pn pc : Nat} {p : List Int} (hp : HoldsB W pa pn pc p) (hk : k < N) (h64 : pn ≤ 64) (hn : N ≤ 100000) (hln : lo.length ≤ 100000) :
    Calls Try.prog 11 #[.agg #[.slice na N nc, .slice sa N sc, .slice la lo.length lc], .int .i64 (k : Int), .slice pa pn pc] W fun e w' => ∃ qa qc ta tc ga gc ua uc, e = .returned (.tuple #[.agg #[.slice qa N qc, .slice sa N sc, .slice ga (lo.length + 1) gc], .int .i64 0]) ∧ Sa w w' E D N bs ls qa qc sa sc ga gc (now.set k ⟨ta, pn, tc, p⟩) safe (lo ++ [⟨(k : Int), ua, pn, uc, p⟩]) ∧ Below W.heap.size W w' := by
  obtain ⟨F, G, h1, h2, h3, h4, h5, h6, h7⟩ := h
  refine (rput_in na N nc now sa N sc la lo.length lc lo k pa pn pc p W h7.hn h7.hl hp hk h64 hn hln).mono ?_
  rintro e w' ⟨qa, qc, ta, tc, ga, gc, ua, uc, rfl, a1, a2, a3, a4, ⟨n1, n2, n3, n4⟩, b⟩
  have R := h7.onl (Onl.of_below b)
  refine ⟨qa, qc, ta, tc, ga, gc, ua, uc, rfl, ⟨F, G, h1.below b, h2, h3.trans (b.mono h3.size), h4, fun q hq => Nat.lt_of_lt_of_le (h5 q hq) b.size, h6, ⟨a1, R.hs, by simpa using a2, n1.ot h5, R.os, n2.ot h5, fun x hx => ?_, R.es, fun x hx => ?_⟩⟩, b⟩
  · rcases List.mem_or_eq_of_mem_set hx with hx | rfl
    · exact R.en x hx
    · exact ⟨a3, n3.ot h5⟩
  · rcases List.mem_append.1 hx with hx | hx
    · exact R.el x hx
    · simp only [List.mem_singleton] at hx
      subst hx
      exact ⟨a4, n4.ot h5⟩
theorem sa_rsync (h : Sa w W E D N bs ls na nc sa sc la lc now safe lo) (hn : N ≤ 100000) :
    Calls Try.prog 13 #[.agg #[.slice na N nc, .slice sa N sc, .slice la lo.length lc]] W fun e w' => ∃ qa qc, e = .returned (.agg #[.slice na N nc, .slice qa N qc, .slice none 0 0]) ∧ Sa w w' E D N bs ls na nc qa qc none 0 now now [] ∧ Below W.heap.size W w' := by
  obtain ⟨F, G, h1, h2, h3, h4, h5, h6, h7⟩ := h
  refine (rsync_any na N nc now sa N sc la lo.length lc W h7.hn hn).mono ?_
  rintro e w' ⟨qa, qc, rfl, a1, n1, b⟩
  have R := h7.onl (Onl.of_below b)
  exact ⟨qa, qc, rfl, ⟨F, G, h1.below b, h2, h3.trans (b.mono h3.size), h4, fun q hq => Nat.lt_of_lt_of_le (h5 q hq) b.size, h6, ⟨R.hn, a1, ⟨rfl, by simp, by simp, by simp, by simp⟩, R.on, n1.ot h5, fun b o e => by simp at e, R.en, R.en, fun x hx => by simp at hx⟩⟩, b⟩
theorem redo_mem {sf : List Sl} {lo : List Wo} {x : Sl} (h : x ∈ redo sf lo) : x ∈ sf ∨ ∃ y ∈ lo, x = ⟨y.sa, y.sl, y.sc, y.p⟩ := by
  unfold redo at h
  induction lo generalizing sf with
  | nil => exact .inl h
  | cons y r ih =>
    rw [List.foldl_cons] at h
    rcases ih h with h | ⟨z, hz, e⟩
    · rcases List.mem_or_eq_of_mem_set h with h | e
      · exact .inl h
      · exact .inr ⟨y, List.mem_cons_self, e⟩
    · exact .inr ⟨z, List.mem_cons_of_mem _ hz, e⟩
theorem sa_rcrash (h : Sa w W E D N bs ls na nc sa sc la lc now safe lo) (kp : Int) (hs : 0 < N) (hn : N ≤ 100000) (hln : lo.length ≤ 100000) (hk : 0 ≤ kp) (hx : ∀ x ∈ lo, 0 ≤ x.n ∧ x.n < N) :
    Calls Try.prog 15 #[.agg #[.slice na N nc, .slice sa N sc, .slice la lo.length lc], .int .i64 kp] W fun e w' => ∃ qa qc ra rc, e = .returned (.tuple #[.agg #[.slice qa N qc, .slice ra N rc, .slice none 0 0], .int .i64 0]) ∧ Sa w w' E D N bs ls qa qc ra rc none 0 (redo safe (lo.take kp.toNat)) (redo safe (lo.take kp.toNat)) [] ∧ Below W.heap.size W w' := by
  obtain ⟨F, G, h1, h2, h3, h4, h5, h6, h7⟩ := h
  refine (rcrash_any na N nc sa N sc safe la lo.length lc lo kp W h7.hs h7.hl hs hn hln hk hx).mono ?_
  rintro e w' ⟨qa, qc, ra, rc, rfl, a1, a2, n1, n2, b⟩
  have R := h7.onl (Onl.of_below b)
  have M : ∀ x ∈ redo safe (lo.take kp.toNat), HoldsB w' x.sa x.sl x.sc x.p ∧ Ot G x.sa x.sl := fun x hx => by
    rcases redo_mem hx with hx | ⟨y, hy, rfl⟩
    · exact R.es x hx
    · exact R.el y (List.mem_of_mem_take hy)
  exact ⟨qa, qc, ra, rc, rfl, ⟨F, G, h1.below b, h2, h3.trans (b.mono h3.size), h4, fun q hq => Nat.lt_of_lt_of_le (h5 q hq) b.size, h6, ⟨a1, a2, ⟨rfl, by simp, by simp, by simp, by simp⟩, n1.ot h5, n2.ot h5, fun b o e => by simp at e, M, M, fun x hx => by simp at hx⟩⟩, b⟩
end
/-- How the two answer to each other. -/
structure Rel (N : Nat) (bs : List (List Int)) (ls : List Ws) (now safe : List Sl) (lo : List Wo) : Prop where
  nw : bs = now.map (·.p)
  ln : now.length = N
  lf : safe.length = N
  lb : ∀ b ∈ bs, BB b ∧ b.length ≤ 64
  lsf : ∀ x ∈ safe, BB x.p ∧ x.p.length ≤ 64
  ll : ls.length = lo.length
  rs : ∀ x ∈ ls, 0 ≤ x.n ∧ x.n < (N : Int)
  rl : ∀ x ∈ lo, 0 ≤ x.n ∧ x.n < (N : Int)
  lw : ∀ x ∈ lo, BB x.p ∧ x.p.length ≤ 64
  un : ∀ j, j ≤ lo.length → und bs (ls.drop j) = (redo safe (lo.take j)).map (·.p)
section
variable {N : Nat} {bs : List (List Int)} {ls : List Ws} {now safe : List Sl} {lo : List Wo}
theorem Rel.len (h : Rel N bs ls now safe lo) : bs.length = N := by rw [h.nw, List.length_map, h.ln]
theorem Rel.begin (N : Nat) : Rel N (List.replicate N []) [] (List.replicate N sl0) (List.replicate N sl0) [] := by
  refine ⟨by rw [List.map_replicate]; rfl, by simp, by simp, fun b hb => ?_, fun x hx => ?_, rfl, by simp, by simp, by simp, fun j hj => ?_⟩
  · rw [List.eq_of_mem_replicate hb]; exact ⟨BB.nil, by simp⟩
  · rw [List.eq_of_mem_replicate hx]; exact ⟨BB.nil, by simp [sl0]⟩
  · simp only [List.drop_nil, List.take_nil]
    show List.replicate N [] = (List.replicate N sl0).map (·.p)
    rw [List.map_replicate]
    rfl
theorem Rel.put (h : Rel N bs ls now safe lo) {k : Nat} {p : List Int} (hk : k < N) (hp : BB p) (h64 : p.length ≤ 64) (ta : Option Addr) (tn tc : Nat) (ua : Option Addr) (u n' : Nat) : Rel N (wB bs (k : Int) p) (wL bs ls (k : Int) p) (now.set k ⟨ta, tn, tc, p⟩) safe (lo ++ [⟨(k : Int), ua, u, n', p⟩]) := by
  have hb := h.len
  have ok : wOk bs.length (k : Int) p.length := ⟨by omega, h64⟩
  have e1 : wB bs (k : Int) p = bs.set k p := by unfold wB; rw [if_pos ok]; rfl
  have e2 : (wL bs ls (k : Int) p).length = ls.length + 1 := wL_yes (wE_ok.2 ok)
  refine ⟨?_, by simp [h.ln], h.lf, ?_, h.lsf, by rw [e2, List.length_append, h.ll]; rfl, ?_, ?_, ?_, ?_⟩
  · rw [e1, h.nw, List.map_set]
  · intro b hb
    rw [e1] at hb
    rcases List.mem_or_eq_of_mem_set hb with hb | rfl
    · exact h.lb b hb
    · exact ⟨hp, h64⟩
  · have := wL_ok (bs := bs) (n := (k : Int)) (l := p) (ls := ls) (by rw [hb]; exact h.rs)
    rw [wB_len, hb] at this
    exact this
  · intro x hx
    rcases List.mem_append.1 hx with hx | hx
    · exact h.rl x hx
    · simp only [List.mem_singleton] at hx
      subst hx
      exact ⟨by show (0 : Int) ≤ k; omega, by show (k : Int) < N; omega⟩
  · intro x hx
    rcases List.mem_append.1 hx with hx | hx
    · exact h.lw x hx
    · simp only [List.mem_singleton] at hx
      subst hx
      exact ⟨hp, h64⟩
  · intro j hj
    by_cases hj2 : j ≤ lo.length
    · rw [List.take_append_of_le_length hj2, ← h.un j hj2]
      exact step_ge (by rw [h.ll]; exact hj2) rfl
    · have hj3 : j = lo.length + 1 := by rw [List.length_append] at hj; simp at hj; omega
      subst hj3
      rw [List.drop_of_length_le (by rw [e2, h.ll]; omega), List.take_of_length_le (by simp), redo_snoc]
      have h9 := h.un lo.length (Nat.le_refl _)
      rw [List.drop_of_length_le (by rw [h.ll]; omega), List.take_length] at h9
      show wB bs (k : Int) p = _
      rw [e1, List.map_set, ← h9]
      rfl
theorem Rel.sync (h : Rel N bs ls now safe lo) : Rel N bs [] now now [] := by
  refine ⟨h.nw, h.ln, h.ln, h.lb, fun x hx => h.lb x.p (by rw [h.nw]; exact List.mem_map_of_mem hx), rfl, by simp, by simp, by simp, fun j hj => ?_⟩
  simp only [List.drop_nil, List.take_nil]
  exact h.nw
theorem Rel.crash (h : Rel N bs ls now safe lo) (kp : Nat) : Rel N (und bs (ls.drop kp)) [] (redo safe (lo.take kp)) (redo safe (lo.take kp)) [] := by
  have e : und bs (ls.drop kp) = (redo safe (lo.take kp)).map (·.p) := by
    by_cases hk : kp ≤ lo.length
    · exact h.un kp hk
    · have := h.un lo.length (Nat.le_refl _)
      rw [List.drop_of_length_le (by rw [h.ll]; omega), List.take_length] at this
      rw [List.drop_of_length_le (by rw [h.ll]; omega), List.take_of_length_le (by omega)]
      exact this
  have m : ∀ x ∈ redo safe (lo.take kp), BB x.p ∧ x.p.length ≤ 64 := fun x hx => by
    rcases redo_mem hx with hx | ⟨y, hy, rfl⟩
    · exact h.lsf x hx
    · exact h.lw y (List.mem_of_mem_take hy)
  refine ⟨e, by rw [redo_len, h.lf], by rw [redo_len, h.lf], fun b hb => ?_, m, rfl, by simp, by simp, by simp, fun j hj => ?_⟩
  · rw [e] at hb
    obtain ⟨x, hx, rfl⟩ := List.mem_map.1 hb
    exact m x hx
  · simp only [List.drop_nil, List.take_nil]
    exact e
end
end Go.Proofs.Ytpkifcoichjnbaa

namespace Go.Proofs.Ytpkifcoichjnbaa
open Go.RowKit Go.Deep Go.Maps
open Go.ChangeShapes Go.WideShapes Go.ChangeAt
set_option linter.unusedVariables false
set_option linter.unusedSimpArgs false
section
variable {H : Type} {enc : TypeId × Value → H} {w : World} {base b0 : Nat} {spare : Nat → Bool} {held : Bool} {r : Reach} {v : Value} {d : DataW H} {p : List MemPlace} {fuel : Nat} {cs : List Value} {x : DataW H × List MemPlace}
set_option maxRecDepth 100000 in
theorem trod_oppS (h : DataW.trod enc Try.prog w base (fun _ => true) held fuel 36 cs = some x) : ∃ q : Opp, cs = q.cs ∧ HoldsB w q.sa q.sl q.sc q.p ∧ I64 q.n ∧ ((x.1.weights Try.prog 36).all (· ≤ reachBytes) = true → q.sc * 1 ≤ 140737488351232) := by
  obtain ⟨xs, n, _, hxe, hl, hx, hf⟩ := DataW.trod_struct Try.underlying36 h
  have hc : Try.prog.cellsOf 36 = 3 := by kernel_rfl
  have hc1 : Try.prog.cellsOf 5 = 1 := by kernel_rfl
  have hc2 : Try.prog.cellsOf 3 = 1 := by kernel_rfl
  have hc3 : Try.prog.cellsOf 34 = 1 := by kernel_rfl
  rw [hc] at hl
  match cs, hl with
  | [c0, c1, c2], _ =>
    have f0 := hf 0 _ rfl
    have f1 := hf 1 _ rfl
    have f2 := hf 2 _ rfl
    simp only [List.getElem_toArray, List.getElem_cons_zero, List.getElem_cons_succ] at f0 f1 f2
    rw [hc2] at f0 f1
    rw [hc3] at f2
    have hxs : xs.length = 3 := by rw [hx]; rfl
    rw [List.getElem?_eq_getElem (by omega)] at f0 f1 f2
    obtain ⟨a0, e0, _, w0⟩ := DataW.trod_int Try.underlying3 f0
    obtain ⟨a1, e1, _, w1⟩ := DataW.trod_int Try.underlying3 f1
    simp at e0 e1
    subst e0 e1
    rcases open_ints Try.underlying34 Try.underlying5 hc1 f2 with ⟨e3, _⟩ | ⟨ad, len, cap, zs, e3, _, h1, h2, h3, h4, h5, h6⟩
    · simp at e3
      subst e3
      exact ⟨⟨a0, a1, none, 0, 0, []⟩, rfl, holdsB_none _, bounds_i64 w1, fun _ => by simp⟩
    · simp at e3
      subst e3
      simp only [if_true] at h3
      refine ⟨⟨a0, a1, some ad, len, cap, zs.take len⟩, rfl, holdsB_row (zs := zs) (.inr ⟨ad, rfl, h1, h2, h3, h5, h6⟩), bounds_i64 w1, fun hw => ?_⟩
      rw [List.all_eq_true] at hw
      have hm : cap * 1 ∈ x.1.weights Try.prog 36 := by
        rw [hxe]
        simp only [DataW.weights, Try.underlying36]
        refine DataW.weights_mem_each (j := 2) (t := 34) (d := xs[2].1) rfl (by rw [List.getElem?_map, List.getElem?_eq_getElem (by omega)]; rfl) _ ?_
        rw [h4]
        simp only [DataW.weights, Try.underlying34]
        have hb : Try.prog.bytesOf 5 = 1 := by kernel_rfl
        rw [hb]
        have hlen : (lits (H := H) IntKind.u8 (zs.take len)).length + (lits (H := H) IntKind.u8 (zs.drop len)).length = cap := by
          simp [lits]; omega
        rw [hlen]
        exact List.mem_cons_self
      have := of_decide_eq_true (hw _ hm)
      simpa [reachBytes] using this
set_option maxRecDepth 100000 in
/-- A list of calls that came in. -/
theorem val_rowOS {t : TypeId} {a : Option Addr} {len cap : Nat} (ht : Try.prog.underlying t = some (.slice 36))
    (h : DataW.Trod enc Try.prog w base (fun _ => true) held t (.slice a len cap) d p) : ∃ l : List Opp, HoldsO w a len cap l ∧ (∀ q ∈ l, I64 q.n) ∧ ((d.weights Try.prog t).all (· ≤ reachBytes) = true → ∀ q ∈ l, q.sc * 1 ≤ 140737488351232) := by
  have hc : Try.prog.cellsOf 36 = 3 := by kernel_rfl
  obtain ⟨fuel, hf⟩ := h
  rcases open_slice ht hf with ⟨hcs, _⟩ | ⟨x, l, c, m, n, D, Pl, hcs, _, hl, hm, hmm, hx, hi⟩
  · simp [Value.cells] at hcs
    obtain ⟨rfl, rfl, rfl⟩ := hcs
    exact ⟨[], ⟨⟨rfl, by omega, by omega, fun _ => ⟨rfl, rfl⟩, fun h => absurd h (by omega)⟩, fun q hq => by cases hq⟩, (fun q hq => by cases hq), fun _ q hq => by cases hq⟩
  · simp [Value.cells] at hcs
    obtain ⟨rfl, rfl, rfl⟩ := hcs
    simp only [if_true] at hmm
    subst hmm
    rw [hc] at hi
    have hg : ∀ i, i < len → ∃ q : Opp, (HoldsB w q.sa q.sl q.sc q.p ∧ I64 q.n ∧ (((D i).weights Try.prog 36).all (· ≤ reachBytes) = true → q.sc * 1 ≤ 140737488351232)) ∧ ∀ j u, q.cs[j]? = some u → w.cell? (x.add (i * 3 + j)) = some u := fun i hlt => by
      obtain ⟨cs', h1, h2⟩ := hi i (by omega)
      obtain ⟨q, e1, hq⟩ := trod_oppS h2
      obtain ⟨_, h3, h4⟩ := World.cells?_some h1
      refine ⟨q, hq, fun j u hu => ?_⟩
      have hj : j < 3 := by have := (List.getElem?_eq_some_iff.1 hu).1; rw [Opp.cs_len] at this; exact this
      have := h4 j hj
      rw [Go.Deep.add_add, e1, hu] at this
      exact this
    have hcase : ∃ f : Nat → Opp, ∀ i, i < len → (HoldsB w (f i).sa (f i).sl (f i).sc (f i).p ∧ I64 (f i).n ∧ (((D i).weights Try.prog 36).all (· ≤ reachBytes) = true → (f i).sc * 1 ≤ 140737488351232)) ∧ ∀ j u, (f i).cs[j]? = some u → w.cell? (x.add (i * 3 + j)) = some u := by
      refine ⟨fun i => if h : i < len then (hg i h).choose else default, fun i hlt => ?_⟩
      simp only [dif_pos hlt]
      exact (hg i hlt).choose_spec
    obtain ⟨f, hf2⟩ := hcase
    unfold maxLen at hm
    refine ⟨(List.range len).map f, ⟨⟨by simp, hl, by omega, (fun h => by cases h), fun hp => ?_⟩, ?_⟩, ?_, ?_⟩
    · have h0 := (hf2 0 hp).2 0 _ rfl
      have hsp := cell_spot h0
      obtain ⟨b, o, s⟩ := x
      have hs : s = none := by
        cases s with
        | none => rfl
        | some y => simp [Addr.add] at hsp
      subst hs
      refine ⟨b, o, rfl, ?_, fun j y hy i u hu => ?_⟩
      · have := World.block_lt_of_cell? w _ h0
        simpa [Addr.add] using this
      · have hj : j < len := by have := (List.getElem?_eq_some_iff.1 hy).1; simpa using this
        rw [List.getElem?_map, List.getElem?_range hj] at hy
        simp at hy
        subst hy
        have := (hf2 j hj).2 i u hu
        rw [Addr.add_lit, ← Nat.add_assoc] at this
        exact this
    · intro q hq
      obtain ⟨i, hi1, rfl⟩ := List.mem_map.1 hq
      exact (hf2 i (by simpa using hi1)).1.1
    · intro q hq
      obtain ⟨i, hi1, rfl⟩ := List.mem_map.1 hq
      exact (hf2 i (by simpa using hi1)).1.2.1
    · intro hw q hq
      obtain ⟨i, hi1, rfl⟩ := List.mem_map.1 hq
      have hi2 : i < len := by simpa using hi1
      refine (hf2 i hi2).1.2.2 ?_
      rw [List.all_eq_true] at hw ⊢
      intro k hk
      refine hw k ?_
      have hd : d = _ := congrArg Prod.fst hx
      rw [hd]
      simp only [DataW.weights, ht]
      refine List.mem_cons_of_mem _ (List.mem_append.2 (.inl (weights_mem_all ?_ k hk)))
      exact List.mem_map.2 ⟨i, by simpa using hi2, rfl⟩
end
end Go.Proofs.Ytpkifcoichjnbaa

namespace Go.Proofs.Ytpkifcoichjnbaa
open Go.RowKit Go.Deep Go.Maps
set_option linter.unusedVariables false
set_option linter.unusedSimpArgs false
theorem own_litU (w : World) : Own w.heap.size (w.alloc (.cells #[] 5)) (.slice (some ⟨w.heap.size, 0, none⟩) 0 0) 0 [] :=
  ⟨World.ownsRow_made w #[] 0 (Nat.le_refl _) (by unfold maxLen; omega) (by simp), BB.nil⟩
/-- Bytes, whatever they are, and 71 behind them. -/
def PRow (W : World) (g n c : Nat) : Prop := ∃ cur : Array Value, Blk W g 5 cur ∧ n + 1 ≤ c ∧ c ≤ 9223372036854775807 ∧ cur[n]? = some (.int .u8 71) ∧ ∀ i, i < n → ∃ y : Int, cur[i]? = some (.int .u8 y)
theorem Own.prow {base n c : Nat} {W : World} {a : Option Addr} {p : List Int} (h : Own base W (.slice a (n + 1) c) (n + 1) (p ++ [71])) (hp : p.length = n) (hb : BB p) : ∃ g, a = some ⟨g, 0, none⟩ ∧ base ≤ g ∧ g < W.heap.size ∧ PRow W g n c ∧ HoldsB W (some ⟨g, 0, none⟩) n c p := by
  have H := h.holds
  rcases h.1.2 with ⟨hv, hn⟩ | ⟨g, cap, cur, hv, hg, hh, hc, hm, hs, ht⟩
  · cases hv
  · cases hv
    obtain ⟨b, off, e, hcell⟩ := H.2.2.2.2.2.2 (by omega)
    cases e
    have C : ∀ j, j < n + 1 → cur[j]? = some (.int .u8 ((p ++ [71])[j]?.getD 0)) := fun j hj => by
      have := hcell j hj
      rw [Nat.zero_add] at this
      have h' : W.heap[g]? = some (.cells cur 5 (0, 0)) := hh
      simpa [World.cell?, h'] using this
    have hlt : g < W.heap.size := (Array.getElem?_eq_some_iff.1 hh).1
    unfold maxLen at hm
    refine ⟨g, rfl, hg, hlt, ⟨cur, hh, by omega, by omega, ?_, fun i hi => ⟨_, C i (by omega)⟩⟩, hp, by omega, by omega, by omega, hb, fun e => (by cases e), fun h0 => ⟨g, 0, rfl, fun j hj => ?_⟩⟩
    · rw [C n (by omega), List.getElem?_append_right (by omega), hp]
      simp
    · rw [hcell j (by omega), List.getElem?_append_left (by omega)]
theorem PRow.lt {W : World} {g n c : Nat} (h : PRow W g n c) : g < W.heap.size := by obtain ⟨_, h, _⟩ := h; exact h.lt
theorem PRow.cap {W : World} {g n c : Nat} (h : PRow W g n c) : n + 1 ≤ c ∧ c ≤ 9223372036854775807 := by obtain ⟨_, _, h1, h2, _⟩ := h; exact ⟨h1, h2⟩
theorem PRow.same {A B : World} {g n c : Nat} (h : PRow A g n c) (e : B.heap[g]? = A.heap[g]?) : PRow B g n c := by
  obtain ⟨cur, h1, h2⟩ := h
  exact ⟨cur, e.trans h1, h2⟩
theorem PRow.below {A B : World} {g n c : Nat} (h : PRow A g n c) (k : Below A.heap.size A B) : PRow B g n c := h.same (k.block g h.lt)
theorem PRow.put {W : World} {g n c i : Nat} (h : PRow W g n c) (hi : i < n) (y : Int) : PRow (W.setCell ⟨g, i, none⟩ (.int .u8 y)) g n c := by
  obtain ⟨cur, h1, h2, h3, h4, h5⟩ := h
  refine ⟨_, h1.put _, h2, h3, ?_, fun j hj => ?_⟩
  · rw [Array.getElem?_setIfInBounds_ne (by omega)]
    exact h4
  · by_cases e : j = i
    · subst e
      obtain ⟨z, hz⟩ := h5 j hj
      exact ⟨y, by rw [Array.getElem?_setIfInBounds_self_of_lt (Array.getElem?_eq_some_iff.1 hz).1]⟩
    · rw [Array.getElem?_setIfInBounds_ne (Ne.symm e)]
      exact h5 j hj
theorem PRow.at {W : World} {g n c i : Nat} (h : PRow W g n c) (hi : i < n) : ∃ y : Int, W.cell? ⟨g, i, none⟩ = some (.int .u8 y) ∧ W.frozen? ⟨g, i, none⟩ = false := by
  obtain ⟨cur, h1, h2, h3, h4, h5⟩ := h
  obtain ⟨y, hy⟩ := h5 i hi
  exact ⟨y, h1.cellAt i _ hy, h1.froz⟩
theorem PRow.end_ {W : World} {g n c : Nat} (h : PRow W g n c) : W.cell? ⟨g, n, none⟩ = some (.int .u8 71) := by
  obtain ⟨cur, h1, h2, h3, h4, h5⟩ := h
  exact h1.cellAt n _ h4
theorem setRow_onl {F : Nat → Prop} {w W : World} {q : Nat} {cs : Array Value} (h : Onl F w W) (hq : F q) : Onl F w (W.setRow q cs) := by
  refine h.trans (F' := F) ⟨rfl, rfl, rfl, ?_, fun k hk hn => ?_⟩ (fun k hk => .inl hk)
  · exact Nat.le_of_eq (setRow_size W q cs).symm
  · exact setRow_other W q k cs (fun e => hn (e ▸ hq))
theorem Sa.begin {w A W : World} {F : Nat → Prop} {D N : Nat} {na : Option Addr} {nc : Nat} {sb : Option Addr} {sd : Nat} (h1 : Dk F A D (List.replicate N []) []) (h2 : ∀ q, F q → w.heap.size ≤ q) (h3 : Below w.heap.size w A) (b : Below A.heap.size A W) (a1 : HoldsE 1 Sl.cs W na N nc (List.replicate N sl0)) (a2 : HoldsE 1 Sl.cs W sb N sd (List.replicate N sl0)) (n1 : Nw A.heap.size na) (n2 : Nw A.heap.size sb) : Sa w W No D N (List.replicate N []) [] na nc sb sd none 0 (List.replicate N sl0) (List.replicate N sl0) [] := by
  have E : ∀ x ∈ List.replicate N sl0, HoldsB W x.sa x.sl x.sc x.p ∧ Ot F x.sa x.sl := fun x hx => by
    rw [List.eq_of_mem_replicate hx]
    exact ⟨holdsB_none W, fun b o e => by simp [sl0] at e⟩
  exact ⟨F, F, h1.below b, h2, h3.trans (b.mono h3.size), fun q hq => hq, (h1.below b).lt, fun q hq => hq.elim, ⟨a1, a2, ⟨rfl, by simp, by simp, by simp, by simp⟩, n1.ot h1.lt, n2.ot h1.lt, fun b o e => by simp at e, E, E, fun x hx => by simp at hx⟩⟩
end Go.Proofs.Ytpkifcoichjnbaa
