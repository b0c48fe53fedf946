/-
  The disk: its blocks, its loose writes, its memory.
  Contracts of disk: New, has, Sync, Loose, Blocks, Read; a nil disk.
  Contracts of disk: Read.
  Contracts of disk: Write.
  Contracts of disk: Crash.
  Contracts of furlonglaw14: its first calls; a nil disk's calls.
  Calls of a disk, as they come in.
  Two disks side by side; what is taken back.
-/
import Derived.Test.YtpkifcoichjnbaaMB
import Derived.Test.YtpkifcoichjnbaaHC
import Derived.Test.YtpkifcoichjnbaaSE
import Derived.Laws.MakeOwn
import Derived.Deep.MidRow
import Derived.Test.YtpkifcoichjnbaaOpen
import Derived.Test.YtpkifcoichjnbaaOpenS
namespace Go.Proofs.Ytpkifcoichjnbaa
open Go.RowKit Go.Deep Go.Maps
set_option linter.unusedVariables false
set_option linter.unusedSimpArgs false

/-- A block's cells; a loose write. -/
def bk (b : List Int) : List Value := (List.range 64).map fun i => .int .u8 (b[i]?.getD 0)
theorem bk_len (b : List Int) : (bk b).length = 64 := by simp [bk]
theorem bk_one (b : List Int) : ∀ u ∈ bk b, u.oneCell' = true := by
  intro u hu
  obtain ⟨i, _, rfl⟩ := List.mem_map.1 hu
  rfl
structure Ws where
  n : Int
  b : List Int
def Ws.cs (x : Ws) : List Value := .int .i64 x.n :: bk x.b
theorem Ws.cs_len (x : Ws) : x.cs.length = 65 := by simp [Ws.cs, bk_len]
theorem Ws.one (x : Ws) : ∀ u ∈ x.cs, u.oneCell' = true := by
  intro u hu
  rcases List.mem_cons.1 hu with rfl | h
  · rfl
  · exact bk_one _ u h
/-- What is put in the place of some of a list. -/
def rep (cs : List Value) (o : Nat) (vs : List Value) : List Value := cs.take o ++ vs ++ cs.drop (o + vs.length)
theorem rep_nil (cs : List Value) (o : Nat) : rep cs o [] = cs := by simp [rep]
theorem rep_cons (cs : List Value) (o : Nat) (v : Value) (r : List Value) (h : o < cs.length) : rep (cs.set o v) (o + 1) r = rep cs o (v :: r) := by
  unfold rep
  have e1 : (cs.set o v).take (o + 1) = cs.take o ++ [v] := by
    rw [List.take_succ_eq_append_getElem (by simpa using h)]
    simp [List.take_set_of_le]
  have e2 : (cs.set o v).drop (o + 1 + r.length) = cs.drop (o + (v :: r).length) := by
    rw [List.drop_set_of_lt (by omega)]
    simp [Nat.add_assoc, Nat.add_comm 1]
  rw [e1, e2]
  simp
theorem rep_len (cs : List Value) (o : Nat) (vs : List Value) (h : o + vs.length ≤ cs.length) : (rep cs o vs).length = cs.length := by
  unfold rep
  simp only [List.length_append, List.length_take, List.length_drop]
  omega
theorem Blk.setCells {Q t : Nat} : ∀ (vs : List Value) (o : Nat) (cs : Array Value) (W : World), Blk W Q t cs → o + vs.length ≤ cs.size → Blk (W.setCells Q o vs) Q t (rep cs.toList o vs).toArray
  | [], o, cs, W, h, _ => by rw [rep_nil]; simpa [World.setCells] using h
  | v :: r, o, cs, W, h, hl => by
    rw [World.setCells]
    have hl' : o < cs.size := by simp at hl; omega
    have := Blk.setCells r (o + 1) (cs.setIfInBounds o v) _ (h.put v) (by simp at hl ⊢; omega)
    rw [Array.toList_setIfInBounds, rep_cons _ _ _ _ (by simpa using hl')] at this
    exact this
theorem setCells_other (Q q : Nat) : ∀ (vs : List Value) (o : Nat) (W : World), q ≠ Q → (W.setCells Q o vs).heap[q]? = W.heap[q]?
  | [], _, _, _ => rfl
  | v :: r, o, W, h => by
    rw [World.setCells, setCells_other Q q r (o + 1) _ h]
    exact Below.heap_setCell W ⟨Q, o, none⟩ v q h
theorem setC_below {B Q : Nat} {w : World} : ∀ (vs : List Value) (o : Nat) (W : World), Below B w W → B ≤ Q → Below B w (W.setCells Q o vs)
  | [], _, _, h, _ => h
  | v :: r, o, W, h, hb => by rw [World.setCells]; exact setC_below r (o + 1) _ (h.setCell (p := ⟨Q, o, none⟩) hb v) hb

/-- Only these blocks are turned. -/
structure Onl (F : Nat → Prop) (w w' : World) : Prop where
  os : w'.os = w.os
  tape : w'.tape = w.tape
  output : w'.output = w.output
  size : w.heap.size ≤ w'.heap.size
  block : ∀ k, k < w.heap.size → ¬ F k → w'.heap[k]? = w.heap[k]?
theorem Onl.of_below {F : Nat → Prop} {w w' : World} (h : Below w.heap.size w w') : Onl F w w' := ⟨h.os, h.tape, h.output, h.size, fun k hk _ => h.block k hk⟩
theorem Onl.refl (F : Nat → Prop) (w : World) : Onl F w w := Onl.of_below (Below.refl _ _)
theorem Onl.trans {F F' : Nat → Prop} {w w' w'' : World} (h : Onl F w w') (g : Onl F' w' w'') (hf : ∀ k, F' k → F k ∨ w.heap.size ≤ k) : Onl F w w'' :=
  ⟨g.os.trans h.os, g.tape.trans h.tape, g.output.trans h.output, Nat.le_trans h.size g.size, fun k hk hn => (g.block k (Nat.lt_of_lt_of_le hk h.size) (fun e => (hf k e).elim hn (fun e => by omega))).trans (h.block k hk hn)⟩
theorem Onl.below {F : Nat → Prop} {w0 w w' : World} (h : Onl F w w') (hb : Below w0.heap.size w0 w) (hF : ∀ k, F k → w0.heap.size ≤ k) : Below w0.heap.size w0 w' :=
  ⟨h.os.trans hb.os, h.tape.trans hb.tape, h.output.trans hb.output, Nat.le_trans hb.size h.size, fun k hk => (h.block k (Nat.lt_of_lt_of_le hk hb.size) (fun e => by have := hF k e; omega)).trans (hb.block k hk)⟩
theorem Onl.setCell {F : Nat → Prop} {w w' : World} (h : Onl F w w') (a : Addr) (v : Value) (ha : F a.block ∨ w.heap.size ≤ a.block) : Onl F w (w'.setCell a v) := by
  have b := (Below.refl 0 w').setCell (p := a) (Nat.zero_le _) v
  exact ⟨b.os.trans h.os, b.tape.trans h.tape, b.output.trans h.output, Nat.le_trans h.size b.size, fun k hk hn => (Below.heap_setCell w' a v k (fun e => by subst e; exact ha.elim hn (fun e => by omega))).trans (h.block k hk hn)⟩
theorem Onl.setCells {F : Nat → Prop} {w w' : World} (h : Onl F w w') (Q o : Nat) (vs : List Value) (ha : F Q ∨ w.heap.size ≤ Q) : Onl F w (w'.setCells Q o vs) := by
  have b := setC_below (B := 0) vs o w' (Below.refl 0 w') (Nat.zero_le Q)
  exact ⟨b.os.trans h.os, b.tape.trans h.tape, b.output.trans h.output, Nat.le_trans h.size b.size, fun k hk hn => (setCells_other Q k vs o w' (fun e => by subst e; exact ha.elim hn (fun e => by omega))).trans (h.block k hk hn)⟩
theorem Onl.grown {F : Nat → Prop} {w w' w'' : World} {row : Option Nat} (h : Onl F w w') (g : w'.grownBy w'' row) (hr : ∀ r, row = some r → F r ∨ w.heap.size ≤ r) : Onl F w w'' :=
  h.trans (F' := fun k => row = some k) ⟨g.os, g.tape, g.output, g.size, fun k hk hn => g.block k hk (fun e => hn e.symm)⟩ (fun k e => hr k e)
theorem Onl.alloc {F : Nat → Prop} {w w' : World} (h : Onl F w w') (o : Obj) : Onl F w (w'.alloc o) := h.trans (F' := fun _ => False) (Onl.of_below ((Below.refl _ _).alloc (Nat.le_refl _) o)) (fun _ e => e.elim)
theorem Onl.drew {F : Nat → Prop} {w w' : World} (h : Onl F w w') : Onl F w w'.drew := ⟨h.os, h.tape, h.output, h.size, h.block⟩

/-- A disk: its blocks, its loose writes (what stood there); the blocks of memory that it has. -/
def Dk (F : Nat → Prop) (W : World) (D : Nat) (bs : List (List Int)) (ls : List Ws) : Prop :=
  ∃ Bk vL, Blk W D 56 #[.slice (some ⟨Bk, 0, none⟩) bs.length bs.length, vL] ∧ Blk W Bk 59 (bs.flatMap bk).toArray ∧ OwnE 61 65 Ws.cs 0 W vL ls.length ls ∧ F D ∧ F Bk ∧ (∀ g, vL.ownBlock = some g → F g) ∧ (∀ k, F k → k < W.heap.size)
theorem Blk.onl {F : Nat → Prop} {A B : World} {Q t : Nat} {cs : Array Value} (h : Blk A Q t cs) (k : Onl F A B) (hq : ¬ F Q) : Blk B Q t cs := (k.block Q h.lt hq).trans h
theorem OwnE.onl {α : Type} {F : Nat → Prop} {e : TypeId} {k : Nat} {enc : α → List Value} {base n : Nat} {l : List α} {v : Value} {A B : World} (h : OwnE e k enc base A v n l) (o : Onl F A B) (hf : ∀ g, v.ownBlock = some g → ¬ F g) : OwnE e k enc base B v n l := by
  obtain ⟨h0, h3, h4⟩ := h
  refine ⟨h0, h3, ?_⟩
  rcases h4 with h4 | ⟨g, cap, cur, hv, hg, hh, r⟩
  · exact .inl h4
  · exact .inr ⟨g, cap, cur, hv, hg, (o.block g (Array.getElem?_eq_some_iff.1 hh).1 (hf g (by rw [hv]; rfl))).trans hh, r⟩
theorem Dk.onl {F G : Nat → Prop} {A B : World} {D : Nat} {bs : List (List Int)} {ls : List Ws} (h : Dk F A D bs ls) (k : Onl G A B) (hd : ∀ q, F q → ¬ G q) : Dk F B D bs ls := by
  obtain ⟨Bk, vL, h1, h2, h3, h4, h5, h6, h7⟩ := h
  exact ⟨Bk, vL, h1.onl k (hd _ h4), h2.onl k (hd _ h5), h3.onl k (fun g e => hd _ (h6 g e)), h4, h5, h6, fun q hq => Nat.lt_of_lt_of_le (h7 q hq) k.size⟩
theorem Dk.below {F : Nat → Prop} {A B : World} {D : Nat} {bs : List (List Int)} {ls : List Ws} (h : Dk F A D bs ls) (k : Below A.heap.size A B) : Dk F B D bs ls := h.onl (G := fun _ => False) (Onl.of_below k) (fun _ _ e => e)

set_option maxRecDepth 100000 in
theorem sizeDsk : (Try.prog.info? 56).map (·.size) = some 2 := by kernel_rfl
set_option maxRecDepth 100000 in
theorem sizeBlk : (Try.prog.info? 59).map (·.size) = some 64 := by kernel_rfl
set_option maxRecDepth 100000 in
theorem sizeWri : (Try.prog.info? 61).map (·.size) = some 65 := by kernel_rfl
set_option maxRecDepth 100000 in
theorem infoBlk : (Try.prog.info? 59).map (fun i => (i.zero, i.size, i.bytes)) = some (some (.agg (bk []).toArray), 64, 64) := by kernel_rfl
set_option maxRecDepth 100000 in
theorem infoWri : (Try.prog.info? 61).map (fun i => (i.zero, i.size, i.bytes)) = some (some (.agg (Ws.cs ⟨0, []⟩).toArray), 65, 72) := by kernel_rfl
set_option maxRecDepth 100000 in
theorem built_wri (n : Int) (b : List Int) : Try.prog.built 61 [(0, .int .i64 n), (1, .agg (bk b).toArray)] = some (Ws.cs ⟨n, b⟩).toArray := by kernel_rfl
set_option maxRecDepth 100000 in
theorem lit_wri (n : Int) (b : List Int) (w : World) : (Instr.buildSlice 54 1 #[(0, .agg (Ws.cs ⟨n, b⟩).toArray)]).run Try.prog w = .ok (.slice (some ⟨w.heap.size, 0, none⟩) 1 1) (w.alloc (.cells (Ws.cs ⟨n, b⟩).toArray 61)) := by kernel_rfl
set_option maxRecDepth 100000 in
theorem alloc_blk (w : World) : (Instr.alloc 59 true (.tuple #[])).run Try.prog w = .ok (.pointer (some ⟨w.heap.size, 0, none⟩)) (w.alloc (.cells (bk []).toArray 59)) := by kernel_rfl
set_option maxRecDepth 100000 in
theorem alloc_wri (w : World) : (Instr.alloc 61 true (.tuple #[])).run Try.prog w = .ok (.pointer (some ⟨w.heap.size, 0, none⟩)) (w.alloc (.cells (Ws.cs ⟨0, []⟩).toArray 61)) := by kernel_rfl
end Go.Proofs.Ytpkifcoichjnbaa

namespace Go.Proofs.Ytpkifcoichjnbaa
open Go.RowKit Go.Deep Go.Maps
set_option linter.unusedVariables false
set_option linter.unusedSimpArgs false
theorem flat_rep (n : Nat) : (List.replicate n ([] : List Int)).flatMap bk = (madeCells (bk []).toArray (n * 64)).toList := by
  have e : bk [] = List.replicate 64 (.int .u8 0) := by rfl
  have e1 : (List.replicate n ([] : List Int)).flatMap bk = List.replicate (n * 64) (.int .u8 0) := by
    induction n with
    | zero => simp
    | succ n ih =>
      rw [List.replicate_succ', List.flatMap_append, ih]
      simp only [List.flatMap_cons, List.flatMap_nil, List.append_nil, e, List.replicate_append_replicate]
      congr 1
      omega
  rw [e1]
  apply List.ext_getElem
  · simp [madeCells]
  · intro i h1 h2
    have hz : ∀ x, (bk []).toArray[x % (bk []).toArray.size]! = .int .u8 0 := by
      intro x
      have hs : (bk []).toArray.size = 64 := by simp [bk_len]
      have hm : x % 64 < 64 := Nat.mod_lt _ (by omega)
      rw [hs, getElem!_pos _ _ (by rw [hs]; exact hm), List.getElem_toArray]
      simp only [bk, List.getElem_map]
      rfl
    simp only [madeCells, hz, List.getElem_replicate]
    simp
set_option maxRecDepth 100000 in
set_option maxHeartbeats 2000000 in
theorem new_any (n : Nat) (w : World) (h1 : 1 ≤ n) (h2 : n ≤ 65536) :
    Calls Try.prog 8 #[.int .i64 (n : Int)] w fun e w' => ∃ D, e = .returned (.tuple #[.pointer (some ⟨D, 0, none⟩), .int .i64 0]) ∧ (∃ F, Dk F w' D (List.replicate n []) [] ∧ (∀ k, F k → w.heap.size ≤ k)) ∧ Below w.heap.size w w' := by
  obtain ⟨i0, hi, hz0, hz1, hz2⟩ := info_parts infoBlk
  have hm := run_makeSlice (P := Try.prog) (w := w) 53 59 i0 (.agg (bk []).toArray) Try.underlying53 hi hz0 .i64 .i64 (n : Int) (n : Int) (by omega) (by omega) (by rw [hz1]; omega) (by rw [hz2]; omega) (by omega)
  rw [hz1, Int.toNat_natCast] at hm
  have e : (Value.agg (bk []).toArray).cells = (bk []).toArray := rfl
  rw [e, show madeCells (bk []).toArray (n * 64) = ((List.replicate n []).flatMap bk).toArray by rw [flat_rep]] at hm
  have t1 : ¬ (n : Int) < 1 := by omega
  have t2 : ¬ 65536 < (n : Int) := by omega
  clear e hi hz0 hz1 hz2
  generalize hbs : List.replicate n ([] : List Int) = bs at *
  have hl : bs.length = n := by rw [← hbs]; simp
  have HL := hid hl
  clear hl hbs
  go_enter Try.func8, Try.ntmps8
  go_wp2_with fail
  go_ret2
  have b1 := (Below.refl w.heap.size w).alloc (Nat.le_refl _) (.cells (bs.flatMap bk).toArray 59)
  have X1 := Blk.alloc w (bs.flatMap bk).toArray (59)
  generalize hw1 : w.alloc (.cells (bs.flatMap bk).toArray 59) = w1 at *
  have s1 : w1.heap.size = w.heap.size + 1 := by rw [← hw1]; simp
  have b2 := (Below.refl w1.heap.size w1).alloc (Nat.le_refl _) (.cells #[.slice (some ⟨w.heap.size, 0, none⟩) n n, .slice none 0 0] 56)
  have X2 := Blk.alloc w1 #[.slice (some ⟨w.heap.size, 0, none⟩) n n, .slice none 0 0] (56)
  refine ⟨w.heap.size + 1, rfl, ⟨fun k => k = w.heap.size ∨ k = w1.heap.size, ⟨w.heap.size, .slice none 0 0, by rw [HL.out, ← s1]; exact X2, X1.below b2, OwnE.nil _ _ _ _ _, .inr s1.symm, .inl rfl, (fun g e => by simp [Value.ownBlock] at e), fun k hk => by have := b2.size; have := X2.lt; rcases hk with rfl | rfl <;> omega⟩, fun k hk => by rcases hk with rfl | rfl <;> omega⟩, b1.trans (b2.mono b1.size)⟩
set_option maxRecDepth 100000 in
theorem new_bad (n : Int) (w : World) (h : n < 1 ∨ 65536 < n) :
    Calls Try.prog 8 #[.int .i64 n] w fun e w' => e = .returned (.tuple #[.pointer none, .int .i64 1]) ∧ w = w' := by
  go_enter Try.func8, Try.ntmps8
  by_cases h1 : n < 1
  · go_wp2_with fail
    go_ret2
    exact ⟨rfl, rfl⟩
  · have h2 : 65536 < n := by omega
    clear h
    go_wp2_with fail
    go_ret2
    exact ⟨rfl, rfl⟩
set_option maxRecDepth 100000 in
theorem has_any (F : Nat → Prop) (D : Nat) (bs : List (List Int)) (ls : List Ws) (n : Int) (w : World) (h : Dk F w D bs ls) :
    Calls Try.prog 22 #[.pointer (some ⟨D, 0, none⟩), .int .i64 n] w fun e w' => e = .returned (.bool (decide (0 ≤ n ∧ n < bs.length))) ∧ w = w' := by
  obtain ⟨Bk, vL, X, _⟩ := h
  have c0 := X.cellAt 0 _ rfl
  generalize bs.length = N at *
  clear X
  go_enter Try.func22, Try.ntmps22
  by_cases h1 : 0 ≤ n
  · have t1 : decide (0 ≤ n) = true := by simpa using h1
    go_wp2_with fail
    go_ret
    exact ⟨by simp [h1], rfl⟩
  · have t1 : decide (0 ≤ n) = false := by simpa using h1
    go_wp2_with fail
    go_ret
    exact ⟨by simp [h1], rfl⟩
set_option maxRecDepth 100000 in
theorem loose_any (F : Nat → Prop) (D : Nat) (bs : List (List Int)) (ls : List Ws) (w : World) (h : Dk F w D bs ls) :
    Calls Try.prog 19 #[.pointer (some ⟨D, 0, none⟩)] w fun e w' => e = .returned (.int .i64 (ls.length : Int)) ∧ w = w' := by
  obtain ⟨Bk, vL, X, _, O, _⟩ := h
  obtain ⟨va, vc, rfl⟩ := O.form
  have c0 := X.cellAt 1 _ rfl
  clear X O
  go_enter Try.func19, Try.ntmps19
  go_wp2_with fail
  go_ret
  exact ⟨rfl, rfl⟩
set_option maxRecDepth 100000 in
theorem blocks_any (F : Nat → Prop) (D : Nat) (bs : List (List Int)) (ls : List Ws) (w : World) (h : Dk F w D bs ls) :
    Calls Try.prog 20 #[.pointer (some ⟨D, 0, none⟩)] w fun e w' => e = .returned (.int .i64 (bs.length : Int)) ∧ w = w' := by
  obtain ⟨Bk, vL, X, _⟩ := h
  have c0 := X.cellAt 0 _ rfl
  clear X
  go_enter Try.func20, Try.ntmps20
  go_wp2_with fail
  go_ret
  exact ⟨rfl, rfl⟩
set_option maxRecDepth 100000 in
theorem sync_any (F : Nat → Prop) (D : Nat) (bs : List (List Int)) (ls : List Ws) (w : World) (h : Dk F w D bs ls) :
    Calls Try.prog 12 #[.pointer (some ⟨D, 0, none⟩)] w fun e w' => e = .returned (.int .i64 0) ∧ Dk F w' D bs [] ∧ Onl F w w' := by
  obtain ⟨Bk, vL, X, Y, O, f1, f2, f3, f4⟩ := h
  have c1 := X.cellAt 1 _ rfl
  have ff : w.frozen? ⟨D, 1, none⟩ = false := X.froz
  have HX := hid X
  have HY := hid Y
  have HF := hid f1
  have HG := hid f2
  have HI := hid f4
  have nD : Bk ≠ D := by
    rintro rfl
    unfold Blk at X Y
    rw [X] at Y
    simp at Y
  clear X Y O f1 f2 f3 f4
  go_enter Try.func12, Try.ntmps12
  go_wp2_with fail
  go_ret
  have o := (Onl.refl F w).setCell ⟨D, 1, none⟩ (.slice none 0 0) (.inl HF.out)
  exact ⟨rfl, ⟨Bk, .slice none 0 0, HX.out.put _, HY.out.cellO _ _ nD, OwnE.nil _ _ _ _ _, HF.out, HG.out, (fun g e => by simp [Value.ownBlock] at e), fun k hk => Nat.lt_of_lt_of_le (HI.out k hk) o.size⟩, o⟩
end Go.Proofs.Ytpkifcoichjnbaa

namespace Go.Proofs.Ytpkifcoichjnbaa
open Go.RowKit Go.Deep Go.Maps
set_option linter.unusedVariables false
set_option linter.unusedSimpArgs false
section
variable {ops : Array Oper} {rest : List Oper} {op : Oper} {a : Act} {w : World} {Q : Exit → Act → World → Prop}
theorem wpList_alloc_l (hg : op.guard = none) (ty : TypeId) (zs : Array Value) (ho : op.op = .alloc ty) (he : (Instr.alloc ty true (.tuple #[])).run Try.prog w = .ok (.pointer (some ⟨w.heap.size, 0, none⟩)) (w.alloc (.cells zs ty)))
    (h : wpList Try.prog ops Q rest (a.put op.dst (.pointer (some ⟨w.heap.size, 0, none⟩))) (w.alloc (.cells zs ty))) : wpList Try.prog ops Q (op :: rest) a w := by
  refine wpList_plain hg fun _ hK => ?_
  unfold Oper.wp execOp
  simp only [ho, Sem.run_bind, Sem.run_pure, he, Result.andThen_ok]
  exact hK _ _ h
end
/-- What a block reads as. -/
def pad (b : List Int) : List Int := (List.range 64).map fun i => b[i]?.getD 0
theorem pad_len (b : List Int) : (pad b).length = 64 := by simp [pad]
theorem pad_BB {b : List Int} (h : BB b) : BB (pad b) := by
  intro x hx
  obtain ⟨i, _, rfl⟩ := List.mem_map.1 hx
  exact h.getD i
theorem bk_at (b : List Int) {i : Nat} (h : i < 64) : (bk b)[i]? = some (.int .u8 (b[i]?.getD 0)) := by
  unfold bk
  rw [List.getElem?_map, List.getElem?_range h]
  rfl
theorem pad_holds {W : World} {q t : Nat} {b : List Int} (hb : BB b) (h : Blk W q t (bk b).toArray) : HoldsB W (some ⟨q, 0, none⟩) 64 64 (pad b) := by
  refine ⟨pad_len b, by omega, by omega, by omega, pad_BB hb, fun e => (by cases e), fun _ => ⟨q, 0, rfl, fun i hi => ?_⟩⟩
  have := h.cellAt i (.int .u8 (b[i]?.getD 0)) (by rw [List.getElem?_toArray]; exact bk_at b hi)
  rw [Nat.zero_add, this]
  unfold pad
  rw [List.getElem?_map, List.getElem?_range hi]
  rfl
theorem flat_range {bs : List (List Int)} {W : World} {Bk t : Nat} (h : Blk W Bk t (bs.flatMap bk).toArray) {k : Nat} (hk : k < bs.length) : W.rangeAt Bk (k * 64) (bk bs[k]) := fun j v hv => by
  have := h.range (k * 64 + j) v (flat_get bk_len bs k bs[k] j v (List.getElem?_eq_getElem hk) hv)
  rwa [Nat.zero_add] at this
theorem has_yes (F : Nat → Prop) (D : Nat) (bs : List (List Int)) (ls : List Ws) (k : Nat) (w : World) (h : Dk F w D bs ls) (hk : k < bs.length) :
    Calls Try.prog 22 #[.pointer (some ⟨D, 0, none⟩), .int .i64 (k : Int)] w fun e w' => e = .returned (.bool true) ∧ w = w' := by
  have := has_any F D bs ls (k : Int) w h
  rw [show decide (0 ≤ (k : Int) ∧ (k : Int) < bs.length) = true by simp; omega] at this
  exact this
theorem has_not (F : Nat → Prop) (D : Nat) (bs : List (List Int)) (ls : List Ws) (n : Int) (w : World) (h : Dk F w D bs ls) (hn : ¬ (0 ≤ n ∧ n < bs.length)) :
    Calls Try.prog 22 #[.pointer (some ⟨D, 0, none⟩), .int .i64 n] w fun e w' => e = .returned (.bool false) ∧ w = w' := by
  have := has_any F D bs ls n w h
  rw [show decide (0 ≤ n ∧ n < bs.length) = false by simpa using hn] at this
  exact this
set_option maxRecDepth 100000 in
theorem read_nil (n : Int) (w : World) :
    Calls Try.prog 16 #[.pointer none, .int .i64 n] w fun e w' => e = .returned (.tuple #[.slice none 0 0, .int .i64 17]) ∧ w = w' := by
  go_enter Try.func16, Try.ntmps16
  go_wp2_with fail
  go_ret2
  exact ⟨rfl, rfl⟩
set_option maxRecDepth 100000 in
theorem read_out (F : Nat → Prop) (D : Nat) (bs : List (List Int)) (ls : List Ws) (n : Int) (w : World) (h : Dk F w D bs ls) (hn : ¬ (0 ≤ n ∧ n < bs.length)) :
    Calls Try.prog 16 #[.pointer (some ⟨D, 0, none⟩), .int .i64 n] w fun e w' => e = .returned (.tuple #[.slice none 0 0, .int .i64 8]) ∧ w = w' := by
  have C := hid (has_not F D bs ls n w h hn)
  clear h hn
  go_enter Try.func16, Try.ntmps16
  go_wp2_with fail
  with_reducible refine C.out.mono ?_
  rintro e w1 ⟨rfl, rfl⟩
  clear C
  go_wp2_with fail
  go_ret2
  exact ⟨rfl, rfl⟩
set_option maxRecDepth 100000 in
set_option maxHeartbeats 2000000 in
theorem read_in (F : Nat → Prop) (D : Nat) (bs : List (List Int)) (ls : List Ws) (k : Nat) (w : World) (h : Dk F w D bs ls) (hk : k < bs.length) :
    Calls Try.prog 16 #[.pointer (some ⟨D, 0, none⟩), .int .i64 (k : Int)] w fun e w' => ∃ q, e = .returned (.tuple #[.slice (some ⟨q, 0, none⟩) 64 64, .int .i64 0]) ∧ w.heap.size ≤ q ∧ Blk w' q 59 (bk bs[k]).toArray ∧ Below w.heap.size w w' := by
  have C := hid (has_yes F D bs ls k w h hk)
  obtain ⟨Bk, vL, X, Y, _⟩ := h
  have c0 := X.cellAt 0 _ rfl
  have RG := hid (flat_range Y hk)
  have H1 := hid (all_oneCell_toArray (bk_one bs[k]))
  have HK := hid (bk_len bs[k])
  generalize bs[k] = b at *
  generalize hcs : bk b = cs at *
  clear hcs X Y
  generalize bs.length = N at *
  have ka : (0 : Int) ≤ (k : Int) := by omega
  have kb : (k : Int) < (N : Int) := by omega
  have hsz : (Try.prog.info? 59).map (·.size) = some cs.length := by rw [HK.out]; exact sizeBlk
  have hal := hid (alloc_blk w)
  go_enter Try.func16, Try.ntmps16
  go_wp2_with fail
  with_reducible refine C.out.mono ?_
  rintro e w1 ⟨rfl, rfl⟩
  clear C
  go_upto_region 6 with (first | refine wpList_load_mid rfl 59 (.tmp 20) rfl _ _ rfl cs _ RG.out Try.underlying59 rfl hsz ?_ | refine wpList_alloc_l rfl 59 _ rfl hal.out ?_ | refine wpList_store_row rfl 59 (.tmp 6) (.tmp 21) rfl w.heap.size cs.toArray rfl rfl 59 _ (heap_alloc_new w _) (by simpa using hsz) (by show (bk []).toArray.size = cs.toArray.size; rw [List.size_toArray, List.size_toArray, bk_len, HK.out]) H1.out ?_)
  rw [alloc_row]
  have b1 := (Below.refl w.heap.size w).alloc (Nat.le_refl _) (.cells cs.toArray 59)
  have X1 := Blk.alloc w cs.toArray (59)
  have B1 := hid b1
  have HX := hid X1
  clear b1 X1 hal H1 HK RG hsz c0
  generalize w.alloc (.cells cs.toArray 59) = w2 at *
  go_wp2_with fail
  go_ret2
  exact ⟨_, rfl, Nat.le_refl _, HX.out, B1.out⟩
end Go.Proofs.Ytpkifcoichjnbaa

namespace Go.Proofs.Ytpkifcoichjnbaa
open Go.RowKit Go.Deep Go.Maps
set_option linter.unusedVariables false
set_option linter.unusedSimpArgs false
section
variable {ops : Array Oper} {rest : List Oper} {o : Oper} {a : Act} {w : World} {Q : Exit → Act → World → Prop} {K : Act → World → Prop}
theorem appW_step {α : Type} {k : Nat} {enc : α → List Value} (T e : TypeId) (z : Value) (bytes : Nat) (hk : ∀ x, (enc x).length = k) (h1 : ∀ x, ∀ u ∈ enc x, u.oneCell' = true) (hT : Try.prog.underlying T = some (.slice e)) (hI : (Try.prog.info? e).map (fun i => (i.zero, i.size, i.bytes)) = some (some z, k, bytes)) (hz : z.cells.size = k) (hk0 : 0 < k)
    (wr : World) (hg : o.guard = none) (s y : Operand) (hop : o.op = Op.call { callee := Callee.builtin Builtin.append, args := #[s, y], argTypes := #[T, T] })
    (base n : Nat) (v : Value) (l : List α) (hs : a.eval s = v) (hown : OwnE e k enc base wr v n l) (hb : base ≤ wr.heap.size) (g : Nat) (x : α) (hx : a.eval y = .slice (some ⟨g, 0, none⟩) 1 1) (hh : Blk wr g e (enc x).toArray) (b0 : n + 1 ≤ 9223372036854775807) (b1 : (n + 1) * bytes ≤ 140737488355328)
    (hK : ∀ v' w', OwnE e k enc base w' v' (n + 1) (l ++ [x]) → wr.grownBy w' v.ownBlock → (v'.ownBlock = v.ownBlock ∨ v'.ownBlock = some wr.heap.size) → K (a.put o.dst v') w') :
    if Region.wanted o (yielded ops a.tmps) = true then Oper.wp Try.prog o a wr K Q else K (a.put o.dst undef) wr := by
  rw [if_pos (by simp [Region.wanted, hg])]
  obtain ⟨i0, hi, hz0, hz1, hz2⟩ := info_parts hI
  unfold Oper.wp
  obtain ⟨v', w', hrun, h3, h2, _, h5⟩ := run_append_own_at (P := Try.prog) wr base T o.type e i0 z k bytes hT hi hz0 hz1 hz2 hz hk0 v n _ hown.2 ⟨g, 0, none⟩ 1 1 (enc x) (by rw [hk]; omega) (by
    intro j u hj
    rw [Addr.add_lit, Nat.zero_add]
    exact hh.cellAt j u (by rw [List.getElem?_toArray]; exact hj)) (h1 x) (by unfold maxLen; omega) b1 hb
  simp [execOp, hop, resolve, invoke, builtin, hs, hx, hrun, Result.andThen]
  exact hK v' w' ⟨by simp [hown.len], by simpa using h3⟩ h2 h5
theorem lit_step (hg : o.guard = none) (T e : TypeId) (x : Operand) (ho : o.op = .buildSlice T 1 #[(0, x)]) (cs : Array Value) (hx : a.eval x = .agg cs) (hr : (Instr.buildSlice T 1 #[(0, .agg cs)]).run Try.prog w = .ok (.slice (some ⟨w.heap.size, 0, none⟩) 1 1) (w.alloc (.cells cs e)))
    (hK : K (a.put o.dst (.slice (some ⟨w.heap.size, 0, none⟩) 1 1)) (w.alloc (.cells cs e))) : if Region.wanted o (yielded ops a.tmps) = true then Oper.wp Try.prog o a w K Q else K (a.put o.dst undef) w := by
  rw [if_pos (by simp [Region.wanted, hg])]
  unfold Oper.wp execOp
  simp [ho, hx, hr]
  exact hK
theorem storeMid_step (hg : o.guard = none) (ty : TypeId) (x y : Operand) (ho : o.op = .store ty x y) (b k : Nat) (cells : Array Value) (hx : a.eval x = .pointer (some ⟨b, k, none⟩)) (hy : a.eval y = .agg cells) (ht : w.there b k cells.size) (hi : (Try.prog.info? ty).map (·.size) = some cells.size) (h1 : cells.all (·.oneCell') = true)
    (hK : K (a.put o.dst undef) (w.setCells b k cells.toList)) : if Region.wanted o (yielded ops a.tmps) = true then Oper.wp Try.prog o a w K Q else K (a.put o.dst undef) w := by
  rw [if_pos (by simp [Region.wanted, hg])]
  exact wp_store_mid ty x y ho b k cells hx hy ht hi h1 hK
theorem wpList_cop (hg : o.guard = none) (d s : Operand) (t t' : TypeId) (ho : o.op = Op.call { callee := Callee.builtin Builtin.copy, args := #[d, s], argTypes := #[t, t'] }) (v u : Value) (hd : a.eval d = v) (hs : a.eval s = u) {v' : Value} {w' : World} (hr : (Builtin.copy_ #[t, t'] o.type #[v, u]).run Try.prog w = .ok v' w')
    (h : wpList Try.prog ops Q rest (a.put o.dst v') w') : wpList Try.prog ops Q (o :: rest) a w := by
  refine wpList_plain hg fun _ hK => ?_
  unfold Oper.wp execOp
  simp only [ho, resolve, invoke, builtin, Sem.run_bind, Sem.run_pure, Result.andThen_ok, List.map_toArray, List.map_cons, List.map_nil, hd, hs, hr]
  exact hK _ _ h
end
theorem rep_bk {l : List Int} (h : l.length ≤ 64) : rep (bk []) 0 (l.map (Value.int .u8)) = bk l := by
  have hl := rep_len (bk []) 0 (l.map (Value.int .u8)) (by simp [bk_len]; omega)
  apply List.ext_getElem?
  intro i
  by_cases hi : i < 64
  · rw [bk_at l hi]
    unfold rep
    simp only [List.take_zero, List.nil_append, Nat.zero_add, List.length_map]
    by_cases h2 : i < l.length
    · rw [List.getElem?_append_left (by simpa using h2), List.getElem?_map, List.getElem?_eq_getElem h2]
      rfl
    · rw [List.getElem?_append_right (by simp; omega), List.getElem?_drop, List.length_map, show l.length + (i - l.length) = i by omega, bk_at [] hi]
      have e : l[i]? = none := List.getElem?_eq_none (by omega)
      rw [e]
      rfl
  · rw [List.getElem?_eq_none (by rw [hl, bk_len]; omega), List.getElem?_eq_none (by rw [bk_len]; omega)]
theorem rep_flat {bs : List (List Int)} {k : Nat} (hk : k < bs.length) (l : List Int) : rep (bs.flatMap bk) (k * 64) (bk l) = (bs.set k l).flatMap bk := by
  have e : bs = bs.take k ++ bs[k] :: bs.drop (k + 1) := by rw [← List.drop_eq_getElem_cons hk, List.take_append_drop]
  have e2 : bs.set k l = bs.take k ++ l :: bs.drop (k + 1) := by rw [List.set_eq_take_append_cons_drop, if_pos hk]
  have f1 : ((bs.take k).flatMap bk).length = k * 64 := by rw [flat_len bk_len, List.length_take]; congr 1; omega
  rw [e2]
  conv => lhs; rw [e]
  unfold rep
  simp only [List.flatMap_append, List.flatMap_cons]
  rw [List.take_left' f1, bk_len, ← List.drop_drop, List.drop_left' f1, List.drop_left' (bk_len _)]
  simp only [List.append_assoc]
theorem there_blk {W : World} {Q t : Nat} {cs : Array Value} (h : Blk W Q t cs) {o n : Nat} (hn : o + n ≤ cs.size) : W.there Q o n := fun j hj => by
  have hc : o + j < cs.size := by omega
  have := h.cellAt (o + j) cs[o + j] (Array.getElem?_eq_getElem hc)
  exact ⟨by rw [this]; rfl, h.froz⟩
theorem copy_bytes (w : World) (ty : TypeId) (q : Nat) (pa : Option Addr) (pn pc : Nat) (l : List Int) (h : HoldsB w pa pn pc l) (hp : pn ≤ 64) (hq : Blk w q 59 (bk []).toArray) :
    (Builtin.copy_ #[34, 34] ty #[.slice (some ⟨q, 0, none⟩) 64 64, .slice pa pn pc]).run Try.prog w = .ok (.int .i64 (pn : Int)) (w.setCells q 0 (l.map (Value.int .u8))) := by
  have hs : (Try.prog.info? 5).map (·.size) = some 1 := by kernel_rfl
  have hl := h.1
  have hmin : Nat.min pn 64 = pn := Nat.min_eq_left hp
  cases pa with
  | none =>
    obtain ⟨rfl, rfl⟩ := h.2.2.2.2.2.1 rfl
    obtain rfl : l = [] := List.length_eq_zero_iff.1 hl
    have hu := Try.underlying34
    cases hq' : Try.prog.info? 5 with
    | none => simp [hq'] at hs
    | some i =>
      have hi : i.size = 1 := by simpa [hq'] using hs
      simp [Builtin.copy_, run_underlying hu, Builtin.lenOf, Builtin.firstCells, sizeOf, typeInfo, hq', hi, World.setCells, storeCells]
      rfl
  | some ad =>
    have := run_copy_k (P := Try.prog) w 34 34 ty 5 1 q 0 64 64 ad pn pc (l.map (Value.int .u8)) Try.underlying34 hs (by rw [List.length_map, hl, hmin]; omega) (by
      intro j v hj
      have hjm : j < pn := by have := (List.getElem?_eq_some_iff.1 hj).1; simpa [hl] using this
      obtain ⟨b, off, e, hc⟩ := h.2.2.2.2.2.2 (by omega)
      cases e
      rw [Addr.add_lit, hc j hjm]
      rw [List.getElem?_map, List.getElem?_eq_getElem (by omega)] at hj
      rw [List.getElem?_eq_getElem (by omega)]
      simpa using hj) (by
      intro j hj
      rw [Nat.zero_add]
      have hj' : j < 64 := by simp [hl] at hj; omega
      rw [hq.cellAt j _ (by rw [List.getElem?_toArray]; exact bk_at [] hj')]
      rfl) (fun j hj => hq.froz) (ints_oneCell _ _)
    rw [hmin] at this
    exact this
theorem own_blk_ne {α : Type} {e : TypeId} {k : Nat} {enc : α → List Value} {base n : Nat} {l : List α} {v : Value} {w : World} (h : OwnE e k enc base w v n l) {q t : Nat} {cs : Array Value} (b : Blk w q t cs) (hne : t ≠ e) : ∀ g, v.ownBlock = some g → g ≠ q := by
  intro g hg
  rintro rfl
  rcases h.2.2 with ⟨rfl, _⟩ | ⟨g', cap, cur, rfl, _, hh, _⟩
  · simp [Value.ownBlock] at hg
  · simp [Value.ownBlock] at hg
    subst hg
    unfold Blk at b
    rw [b] at hh
    simp at hh
    exact hne hh.2
theorem Blk.growN {α : Type} {e : TypeId} {k : Nat} {enc : α → List Value} {base n : Nat} {l : List α} {v : Value} {A B : World} {Q t : Nat} {cs : Array Value} (b : Blk A Q t cs) (h : OwnE e k enc base A v n l) (hne : t ≠ e) (hg : A.grownBy B v.ownBlock) : Blk B Q t cs :=
  (hg.block Q b.lt (fun e2 => own_blk_ne h b hne Q e2.symm rfl)).trans b
theorem own_turn {α : Type} {e : TypeId} {k : Nat} {enc : α → List Value} {base n : Nat} {l : List α} {v : Value} {A B : World} (h : OwnE e k enc base A v n l) (hb : ∀ g, v.ownBlock = some g → B.heap[g]? = A.heap[g]?) : OwnE e k enc base B v n l := by
  obtain ⟨h0, h3, h4⟩ := h
  refine ⟨h0, h3, ?_⟩
  rcases h4 with h4 | ⟨g, cap, cur, hv, hg, hh, r⟩
  · exact .inl h4
  · exact .inr ⟨g, cap, cur, hv, hg, (hb g (by rw [hv]; rfl)).trans hh, r⟩
theorem OwnE.setO {α : Type} {e : TypeId} {k : Nat} {enc : α → List Value} {base n : Nat} {l : List α} {v : Value} {A : World} (h : OwnE e k enc base A v n l) {q o : Nat} {vs : List Value} (hq : ∀ g, v.ownBlock = some g → g ≠ q) : OwnE e k enc base (A.setCells q o vs) v n l :=
  own_turn h (fun g e => setCells_other q g vs o A (hq g e))
theorem own_cellO {α : Type} {e : TypeId} {k : Nat} {enc : α → List Value} {base n : Nat} {l : List α} {v : Value} {A : World} (h : OwnE e k enc base A v n l) {a : Addr} (hq : ∀ g, v.ownBlock = some g → g ≠ a.block) (u : Value) : OwnE e k enc base (A.setCell a u) v n l :=
  own_turn h (fun g e => Below.heap_setCell A a u g (hq g e))
theorem Blk.setO {A : World} {Q t : Nat} {cs : Array Value} (h : Blk A Q t cs) {q o : Nat} {vs : List Value} (hq : Q ≠ q) : Blk (A.setCells q o vs) Q t cs := (setCells_other q Q vs o A hq).trans h
theorem holdsB_onl {F : Nat → Prop} {A B : World} {pa : Option Addr} {pn pc : Nat} {l : List Int} (h : HoldsB A pa pn pc l) (o : Onl F A B) (hne : ∀ b o, pa = some ⟨b, o, none⟩ → 0 < pn → ¬ F b) : HoldsB B pa pn pc l := by
  obtain ⟨h1, h2, h3, h4, h5, h6, h7⟩ := h
  refine ⟨h1, h2, h3, h4, h5, h6, fun hp => ?_⟩
  obtain ⟨b, off, e, hc⟩ := h7 hp
  refine ⟨b, off, e, fun i hi => ?_⟩
  rw [← hc i hi]
  exact World.cell?_of_block (o.block b (cell_lt (hc i hi)) (hne b off e hp))
set_option maxRecDepth 100000 in
theorem write_nil (n : Int) (p : Value) (w : World) :
    Calls Try.prog 10 #[.pointer none, .int .i64 n, p] w fun e w' => e = .returned (.int .i64 17) ∧ w = w' := by
  go_enter Try.func10, Try.ntmps10
  go_wp2_with fail
  go_ret
  exact ⟨rfl, rfl⟩
set_option maxRecDepth 100000 in
theorem write_out (F : Nat → Prop) (D : Nat) (bs : List (List Int)) (ls : List Ws) (n : Int) (p : Value) (w : World) (h : Dk F w D bs ls) (hn : ¬ (0 ≤ n ∧ n < bs.length)) :
    Calls Try.prog 10 #[.pointer (some ⟨D, 0, none⟩), .int .i64 n, p] w fun e w' => e = .returned (.int .i64 8) ∧ w = w' := by
  have C := hid (has_not F D bs ls n w h hn)
  clear h hn
  go_enter Try.func10, Try.ntmps10
  go_wp2_with fail
  with_reducible refine C.out.mono ?_
  rintro e w1 ⟨rfl, rfl⟩
  clear C
  go_wp2_with fail
  go_ret
  exact ⟨rfl, rfl⟩
set_option maxRecDepth 100000 in
theorem write_long (F : Nat → Prop) (D : Nat) (bs : List (List Int)) (ls : List Ws) (k : Nat) (pa : Option Addr) (pn pc : Nat) (w : World) (h : Dk F w D bs ls) (hk : k < bs.length) (hp : 64 < pn) :
    Calls Try.prog 10 #[.pointer (some ⟨D, 0, none⟩), .int .i64 (k : Int), .slice pa pn pc] w fun e w' => e = .returned (.int .i64 3) ∧ w = w' := by
  have C := hid (has_yes F D bs ls k w h hk)
  have t1 : 64 < (pn : Int) := by omega
  clear h hk hp
  go_enter Try.func10, Try.ntmps10
  go_wp2_with fail
  with_reducible refine C.out.mono ?_
  rintro e w1 ⟨rfl, rfl⟩
  clear C
  go_wp2_with fail
  go_ret
  exact ⟨rfl, rfl⟩
set_option maxRecDepth 100000 in
set_option maxHeartbeats 4000000 in
theorem write_in (F : Nat → Prop) (D : Nat) (bs : List (List Int)) (ls : List Ws) (k : Nat) (pa : Option Addr) (pn pc : Nat) (l : List Int) (w : World) (h : Dk F w D bs ls) (hk : k < bs.length) (hp : pn ≤ 64) (hl : HoldsB w pa pn pc l) (hne : ∀ b o, pa = some ⟨b, o, none⟩ → 0 < pn → ¬ F b) (hm : ls.length ≤ 1000000) :
    Calls Try.prog 10 #[.pointer (some ⟨D, 0, none⟩), .int .i64 (k : Int), .slice pa pn pc] w fun e w' => e = .returned (.int .i64 0) ∧ (∃ F', Dk F' w' D (bs.set k l) (ls ++ [⟨(k : Int), bs[k]⟩]) ∧ (∀ q, F' q → F q ∨ w.heap.size ≤ q)) ∧ Onl F w w' := by
  have C := hid (has_yes F D bs ls k w h hk)
  obtain ⟨Bk, vL, X, Y, O, f1, f2, f3, f4⟩ := h
  have hll : l.length ≤ 64 := by rw [hl.1]; exact hp
  have nD : Bk ≠ D := by
    rintro rfl
    unfold Blk at X Y
    rw [X] at Y
    simp at Y
  obtain ⟨va, vc, rfl⟩ := O.form
  have FF := hid f3
  have FX := hid f4
  have FD := hid f1
  have FB := hid f2
  have ka : (0 : Int) ≤ (k : Int) := by omega
  have kb : (k : Int) < (bs.length : Int) := by omega
  have t1 : ¬ 64 < (pn : Int) := by omega
  have HL := hid hl
  have NE := hid hne
  have RFL := hid (rep_flat hk l)
  have HKK := hid hk
  have H1 := hid (bk_one bs[k])
  replace X := hid X
  replace Y := hid Y
  replace O := hid O
  clear hl hne f1 f2 f3 f4
  have RGH := hid (fun (W : World) (h : Blk W Bk 59 (bs.flatMap bk).toArray) => flat_range h hk)
  generalize bs[k] = b at *
  go_enter Try.func10, Try.ntmps10
  go_wp2_with fail
  with_reducible refine C.out.mono ?_
  rintro e w1 ⟨rfl, rfl⟩
  clear C
  go_upto_region 7 with fail
  have OL := hid (Onl.refl F w)
  have dX := hid (show Blk w.drew D 56 #[.slice (some ⟨Bk, 0, none⟩) bs.length bs.length, .slice va ls.length vc] from X.out)
  have dY := hid (show Blk w.drew Bk 59 (bs.flatMap bk).toArray from Y.out)
  have dO := hid (show OwnE 61 65 Ws.cs 0 w.drew (.slice va ls.length vc) ls.length ls from O.out)
  have dL := hid (show Onl F w w.drew from OL.out.drew)
  have ds : w.heap.size = w.drew.heap.size := rfl
  clear X Y O OL
  generalize hN : bs.length = N at *
  have HN := hid hN
  clear hN
  generalize hM : ls.length = M at *
  have HM := hid hM
  clear hM
  generalize hfl : bs.flatMap bk = FL at *
  have HFL := hid hfl
  clear hfl
  generalize hw0 : w.heap.size = SZ at *
  have HW0 := hid hw0
  clear hw0
  have s0 : SZ ≤ w.drew.heap.size := by omega
  clear ds
  go_cut [] from 20 to 37 (fun wx => ∃ va4 vc4, Hid (OwnE 61 65 Ws.cs 0 wx (.slice va4 (M + 1) vc4) (M + 1) (ls ++ [⟨(k : Int), b⟩])) ∧ Hid (Blk wx D 56 #[.slice (some ⟨Bk, 0, none⟩) N N, .slice va4 (M + 1) vc4]) ∧ Hid (Blk wx Bk 59 FL.toArray) ∧ Hid (Onl F w wx) ∧ Hid (∀ g, (Value.slice va4 (M + 1) vc4).ownBlock = some g → F g ∨ SZ ≤ g) ∧ SZ ≤ wx.heap.size)
  case first =>
    have dS : w.drew.cell? ⟨D, 0, none⟩ = some (.slice (some ⟨Bk, 0, none⟩) N N) ∧ w.drew.rangeAt Bk (k * 64) (bk b) := ⟨dX.out.cellAt 0 _ rfl, RGH.out _ dY.out⟩
    refine wp_region_held_drew (S := fun W => W.cell? ⟨D, 0, none⟩ = some (.slice (some ⟨Bk, 0, none⟩) N N) ∧ W.rangeAt Bk (k * 64) (bk b)) (by kernel_rfl) dS (fun hHeld => ?_)
    generalize w.drew = wa at *
    refine wpAnyH_take (i := 0) (v := .pointer (some ⟨D, 0, none⟩)) rfl (by kernel_rfl) (by kernel_rfl) (by kernel_rfl) (fun _ _ _ h => h) (Or.inl ⟨by rfl, ?_⟩) (by assumption) ?_
    · (intro w hSw; (try dsimp only at hSw); obtain ⟨h0, h1⟩ := hSw;  go_simp)
    (try simp only [Act.put, List.getElem_toArray, List.getElem_cons_succ, List.getElem_cons_zero, List.setIfInBounds_toArray, List.set_cons_zero, List.set_cons_succ])
    refine wpAnyH_take (i := 1) (v := .pointer (some ⟨D, 0, none⟩)) rfl (by kernel_rfl) (by kernel_rfl) (by kernel_rfl) (fun _ _ _ h => h) (Or.inl ⟨by rfl, ?_⟩) (by assumption) ?_
    · (intro w hSw; (try dsimp only at hSw); obtain ⟨h0, h1⟩ := hSw;  go_simp)
    (try simp only [Act.put, List.getElem_toArray, List.getElem_cons_succ, List.getElem_cons_zero, List.setIfInBounds_toArray, List.set_cons_zero, List.set_cons_succ])
    refine wpAnyH_take (i := 2) (v := .pointer (some ⟨D, 0, none⟩)) rfl (by kernel_rfl) (by kernel_rfl) (by kernel_rfl) (fun _ _ _ h => h) (Or.inl ⟨by rfl, ?_⟩) (by assumption) ?_
    · (intro w hSw; (try dsimp only at hSw); obtain ⟨h0, h1⟩ := hSw;  go_simp)
    (try simp only [Act.put, List.getElem_toArray, List.getElem_cons_succ, List.getElem_cons_zero, List.setIfInBounds_toArray, List.set_cons_zero, List.set_cons_succ])
    refine wpAnyH_take (i := 3) (v := .pointer (some ⟨D, 1, none⟩)) rfl (by kernel_rfl) (by kernel_rfl) (by kernel_rfl) (fun _ _ _ h => h) (Or.inl ⟨by rfl, ?_⟩) (by assumption) ?_
    · (intro w hSw; (try dsimp only at hSw); obtain ⟨h0, h1⟩ := hSw;  go_simp)
    (try simp only [Act.put, List.getElem_toArray, List.getElem_cons_succ, List.getElem_cons_zero, List.setIfInBounds_toArray, List.set_cons_zero, List.set_cons_succ])
    refine wpAnyH_take (i := 5) (v := .int .i64 (k : Int)) rfl (by kernel_rfl) (by kernel_rfl) (by kernel_rfl) (fun _ _ _ h => h) (Or.inl ⟨by rfl, ?_⟩) (by assumption) ?_
    · (intro w hSw; (try dsimp only at hSw); obtain ⟨h0, h1⟩ := hSw;  go_simp)
    (try simp only [Act.put, List.getElem_toArray, List.getElem_cons_succ, List.getElem_cons_zero, List.setIfInBounds_toArray, List.set_cons_zero, List.set_cons_succ])
    refine wpAnyH_take (i := 6) (v := .pointer (some ⟨D, 0, none⟩)) rfl (by kernel_rfl) (by kernel_rfl) (by kernel_rfl) (fun _ _ _ h => h) (Or.inl ⟨by rfl, ?_⟩) (by assumption) ?_
    · (intro w hSw; (try dsimp only at hSw); obtain ⟨h0, h1⟩ := hSw;  go_simp)
    (try simp only [Act.put, List.getElem_toArray, List.getElem_cons_succ, List.getElem_cons_zero, List.setIfInBounds_toArray, List.set_cons_zero, List.set_cons_succ])
    refine wpAnyH_take (i := 7) (v := .pointer (some ⟨D, 0, none⟩)) rfl (by kernel_rfl) (by kernel_rfl) (by kernel_rfl) (fun _ _ _ h => h) (Or.inl ⟨by rfl, ?_⟩) (by assumption) ?_
    · (intro w hSw; (try dsimp only at hSw); obtain ⟨h0, h1⟩ := hSw;  go_simp)
    (try simp only [Act.put, List.getElem_toArray, List.getElem_cons_succ, List.getElem_cons_zero, List.setIfInBounds_toArray, List.set_cons_zero, List.set_cons_succ])
    refine wpAnyH_take (i := 8) (v := .pointer (some ⟨D, 0, none⟩)) rfl (by kernel_rfl) (by kernel_rfl) (by kernel_rfl) (fun _ _ _ h => h) (Or.inl ⟨by rfl, ?_⟩) (by assumption) ?_
    · (intro w hSw; (try dsimp only at hSw); obtain ⟨h0, h1⟩ := hSw;  go_simp)
    (try simp only [Act.put, List.getElem_toArray, List.getElem_cons_succ, List.getElem_cons_zero, List.setIfInBounds_toArray, List.set_cons_zero, List.set_cons_succ])
    refine wpAnyH_take (i := 9) (v := .slice (some ⟨Bk, 0, none⟩) N N) rfl (by kernel_rfl) (by kernel_rfl) (by kernel_rfl) (fun _ _ _ h => h) (Or.inl ⟨by rfl, ?_⟩) (by assumption) ?_
    · (intro w hSw; (try dsimp only at hSw); obtain ⟨h0, h1⟩ := hSw;  go_simp)
    (try simp only [Act.put, List.getElem_toArray, List.getElem_cons_succ, List.getElem_cons_zero, List.setIfInBounds_toArray, List.set_cons_zero, List.set_cons_succ])
    refine wpAnyH_take (i := 10) (v := .int .i64 (k : Int)) rfl (by kernel_rfl) (by kernel_rfl) (by kernel_rfl) (fun _ _ _ h => h) (Or.inl ⟨by rfl, ?_⟩) (by assumption) ?_
    · (intro w hSw; (try dsimp only at hSw); obtain ⟨h0, h1⟩ := hSw;  go_simp)
    (try simp only [Act.put, List.getElem_toArray, List.getElem_cons_succ, List.getElem_cons_zero, List.setIfInBounds_toArray, List.set_cons_zero, List.set_cons_succ])
    refine wpAnyH_take (i := 11) (v := .pointer (some ⟨Bk, k * 64, none⟩)) rfl (by kernel_rfl) (by kernel_rfl) (by kernel_rfl) (fun _ _ _ h => h) (Or.inl ⟨by rfl, ?_⟩) (by assumption) ?_
    · (intro w hSw; (try dsimp only at hSw); obtain ⟨h0, h1⟩ := hSw;  go_simp)
    (try simp only [Act.put, List.getElem_toArray, List.getElem_cons_succ, List.getElem_cons_zero, List.setIfInBounds_toArray, List.set_cons_zero, List.set_cons_succ])
    refine wpAnyH_take (i := 12) (v := .agg (bk b).toArray) rfl (by kernel_rfl) (by kernel_rfl) (by kernel_rfl) (fun _ _ _ h => h) (yieldsIf_load_mid (by rfl) 59 (.tmp 31) rfl Bk (k * 64) rfl (bk b) _ (fun W hW => hW.2) Try.underlying59 rfl (by rw [bk_len]; exact sizeBlk)) (by assumption) ?_
    (try simp only [Act.put, List.getElem_toArray, List.getElem_cons_succ, List.getElem_cons_zero, List.setIfInBounds_toArray, List.set_cons_zero, List.set_cons_succ])
    refine wpAnyH_take (i := 13) (v := .agg (Ws.cs ⟨(k : Int), b⟩).toArray) rfl (by kernel_rfl) (by kernel_rfl) (by kernel_rfl) (fun _ _ _ h => h) (yieldsIf_build (by rfl) _ _ rfl (Ws.cs ⟨(k : Int), b⟩).toArray (by kernel_rfl)) (by assumption) ?_
    (try simp only [Act.put, List.getElem_toArray, List.getElem_cons_succ, List.getElem_cons_zero, List.setIfInBounds_toArray, List.set_cons_zero, List.set_cons_succ])
    refine wpAnyH_ready (rs := [4, 14]) (by kernel_rfl) (by simp) ?_
    refine AllReadyH.cons rfl (fun K hK => ?_) ?_
    · skip
      have y3 := dX.out.cellAt 1 _ rfl
      go_simp
      clear y3
      refine hK.out _ _ dS (fun hHeld => ?_)
      clear hK K
      (try simp only [Act.put, List.getElem_toArray, List.getElem_cons_succ, List.getElem_cons_zero, List.setIfInBounds_toArray, List.set_cons_zero, List.set_cons_succ])
      refine wpAnyH_ready (rs := [14]) (by kernel_rfl) (by simp) ?_
      refine AllReadyH.cons rfl (fun K hK => ?_) AllReadyH.nil
      refine lit_step rfl 54 61 _ rfl (Ws.cs ⟨(k : Int), b⟩).toArray rfl (lit_wri _ _ _) ?_
      have bb := (Below.refl wa.heap.size wa).alloc (Nat.le_refl _) (.cells (Ws.cs ⟨(k : Int), b⟩).toArray 61)
      have XL := hid (Blk.alloc wa (Ws.cs ⟨(k : Int), b⟩).toArray (61))
      replace dX := hid (dX.out.below bb)
      replace dY := hid (dY.out.below bb)
      replace dO := hid (dO.out.below bb)
      replace dL := hid (dL.out.alloc (.cells (Ws.cs ⟨(k : Int), b⟩).toArray 61))
      have s1 : SZ ≤ (wa.alloc (.cells (Ws.cs ⟨(k : Int), b⟩).toArray 61)).heap.size := by have := bb.size; omega
      clear bb dS
      generalize (wa.alloc (.cells (Ws.cs ⟨(k : Int), b⟩).toArray 61)) = wb at *
      generalize wa.heap.size = XQ at *
      refine hK.out _ _ ⟨dX.out.cellAt 0 _ rfl, RGH.out _ dY.out⟩ (fun hHeld => ?_)
      clear hK K
      (try simp only [Act.put, List.getElem_toArray, List.getElem_cons_succ, List.getElem_cons_zero, List.setIfInBounds_toArray, List.set_cons_zero, List.set_cons_succ])
      refine wpAnyH_ready (rs := [15]) (by kernel_rfl) (by simp) ?_
      refine AllReadyH.cons rfl (fun K hK => ?_) AllReadyH.nil
      refine appW_step 54 61 _ 72 Ws.cs_len Ws.one Try.underlying54 infoWri rfl (by decide) wb rfl (.tmp 24) (.tmp 34) rfl 0 M (.slice va M vc) ls rfl dO.out (Nat.zero_le _) XQ ⟨(k : Int), b⟩ rfl XL.out (by omega) (by omega) ?_
      intro v4 w4 h4 g4 r4
      obtain ⟨va4, vc4, rfl⟩ := h4.form
      replace dX := hid (dX.out.growN dO.out (by decide) g4)
      replace dY := hid (dY.out.growN dO.out (by decide) g4)
      replace dL := hid (dL.out.grown g4 (fun r hr => .inl (FF.out r hr)))
      have RR : Hid (∀ g, (Value.slice va4 (M + 1) vc4).ownBlock = some g → F g ∨ SZ ≤ g) := fun g e => by rcases r4 with r | r; exact .inl (FF.out g (by rw [← r]; exact e)); rw [r] at e; cases e; exact .inr s1
      have s4 : SZ ≤ w4.heap.size := by have := g4.size; omega
      replace dO := hid h4
      clear h4 g4 r4 XL
      refine hK.out _ _ ⟨dX.out.cellAt 0 _ rfl, RGH.out _ dY.out⟩ (fun hHeld => ?_)
      clear hK K
      (try simp only [Act.put, List.getElem_toArray, List.getElem_cons_succ, List.getElem_cons_zero, List.setIfInBounds_toArray, List.set_cons_zero, List.set_cons_succ])
      refine wpAnyH_take (i := 16) (v := .pointer (some ⟨D, 0, none⟩)) rfl (by kernel_rfl) (by kernel_rfl) (by kernel_rfl) (fun _ _ _ h => h) (Or.inl ⟨by rfl, ?_⟩) (by assumption) ?_
      · (intro w hSw; (try dsimp only at hSw); obtain ⟨h0, h1⟩ := hSw;  go_simp)
      (try simp only [Act.put, List.getElem_toArray, List.getElem_cons_succ, List.getElem_cons_zero, List.setIfInBounds_toArray, List.set_cons_zero, List.set_cons_succ])
      refine wpAnyH_take (i := 17) (v := .pointer (some ⟨D, 1, none⟩)) rfl (by kernel_rfl) (by kernel_rfl) (by kernel_rfl) (fun _ _ _ h => h) (Or.inl ⟨by rfl, ?_⟩) (by assumption) ?_
      · (intro w hSw; (try dsimp only at hSw); obtain ⟨h0, h1⟩ := hSw;  go_simp)
      (try simp only [Act.put, List.getElem_toArray, List.getElem_cons_succ, List.getElem_cons_zero, List.setIfInBounds_toArray, List.set_cons_zero, List.set_cons_succ])
      refine wpAnyH_ready (rs := [18]) (by kernel_rfl) (by simp) ?_
      refine AllReadyH.cons rfl (fun K hK => ?_) AllReadyH.nil
      have y := dX.out.cellAt 1 _ rfl
      have ff : w4.frozen? ⟨D, 1, none⟩ = false := dX.out.froz; have nO : ∀ g, (Value.slice va4 (M + 1) vc4).ownBlock = some g → g ≠ D := own_blk_ne dO.out dX.out (by decide); replace nO := hid nO
      go_simp
      clear y ff
      replace dX : Hid (Blk (w4.setCell ⟨D, 1, none⟩ (.slice va4 (M + 1) vc4)) D 56 #[.slice (some ⟨Bk, 0, none⟩) N N, .slice va4 (M + 1) vc4]) := dX.out.put (i := 1) (.slice va4 (M + 1) vc4)
      replace dY := hid (dY.out.cellO ⟨D, 1, none⟩ (.slice va4 (M + 1) vc4) nD)
      have oD : Hid (OwnE 61 65 Ws.cs 0 (w4.setCell ⟨D, 1, none⟩ (.slice va4 (M + 1) vc4)) (.slice va4 (M + 1) vc4) (M + 1) (ls ++ [⟨(k : Int), b⟩])) := own_cellO (a := ⟨D, 1, none⟩) dO.out nO.out (.slice va4 (M + 1) vc4)
      replace dL := hid (dL.out.setCell ⟨D, 1, none⟩ (.slice va4 (M + 1) vc4) (.inl FD.out))
      have s5 : SZ ≤ (w4.setCell ⟨D, 1, none⟩ (.slice va4 (M + 1) vc4)).heap.size := by simpa using s4
      clear dO
      generalize w4.setCell ⟨D, 1, none⟩ (.slice va4 (M + 1) vc4) = w5 at *
      refine hK.out _ _ ⟨dX.out.cellAt 0 _ rfl, RGH.out _ dY.out⟩ (fun hHeld => ?_)
      clear hK K
      (try simp only [Act.put, List.getElem_toArray, List.getElem_cons_succ, List.getElem_cons_zero, List.setIfInBounds_toArray, List.set_cons_zero, List.set_cons_succ])
      refine wpAnyH_done (by kernel_rfl) ?_ _
      clear hHeld
      go_wp2_with fail
      go_meet
      exact ⟨va4, vc4, oD, dX, dY, dL, RR, s5⟩
    refine AllReadyH.cons rfl (fun K hK => ?_) AllReadyH.nil
    refine lit_step rfl 54 61 _ rfl (Ws.cs ⟨(k : Int), b⟩).toArray rfl (lit_wri _ _ _) ?_
    have bb := (Below.refl wa.heap.size wa).alloc (Nat.le_refl _) (.cells (Ws.cs ⟨(k : Int), b⟩).toArray 61)
    have XL := hid (Blk.alloc wa (Ws.cs ⟨(k : Int), b⟩).toArray (61))
    replace dX := hid (dX.out.below bb)
    replace dY := hid (dY.out.below bb)
    replace dO := hid (dO.out.below bb)
    replace dL := hid (dL.out.alloc (.cells (Ws.cs ⟨(k : Int), b⟩).toArray 61))
    have s1 : SZ ≤ (wa.alloc (.cells (Ws.cs ⟨(k : Int), b⟩).toArray 61)).heap.size := by have := bb.size; omega
    clear bb dS
    generalize (wa.alloc (.cells (Ws.cs ⟨(k : Int), b⟩).toArray 61)) = wb at *
    generalize wa.heap.size = XQ at *
    refine hK.out _ _ ⟨dX.out.cellAt 0 _ rfl, RGH.out _ dY.out⟩ (fun hHeld => ?_)
    clear hK K
    (try simp only [Act.put, List.getElem_toArray, List.getElem_cons_succ, List.getElem_cons_zero, List.setIfInBounds_toArray, List.set_cons_zero, List.set_cons_succ])
    refine wpAnyH_ready (rs := [4]) (by kernel_rfl) (by simp) ?_
    refine AllReadyH.cons rfl (fun K hK => ?_) AllReadyH.nil
    have y3 := dX.out.cellAt 1 _ rfl
    go_simp
    clear y3
    refine hK.out _ _ ⟨dX.out.cellAt 0 _ rfl, RGH.out _ dY.out⟩ (fun hHeld => ?_)
    clear hK K
    (try simp only [Act.put, List.getElem_toArray, List.getElem_cons_succ, List.getElem_cons_zero, List.setIfInBounds_toArray, List.set_cons_zero, List.set_cons_succ])
    refine wpAnyH_ready (rs := [15]) (by kernel_rfl) (by simp) ?_
    refine AllReadyH.cons rfl (fun K hK => ?_) AllReadyH.nil
    refine appW_step 54 61 _ 72 Ws.cs_len Ws.one Try.underlying54 infoWri rfl (by decide) wb rfl (.tmp 24) (.tmp 34) rfl 0 M (.slice va M vc) ls rfl dO.out (Nat.zero_le _) XQ ⟨(k : Int), b⟩ rfl XL.out (by omega) (by omega) ?_
    intro v4 w4 h4 g4 r4
    obtain ⟨va4, vc4, rfl⟩ := h4.form
    replace dX := hid (dX.out.growN dO.out (by decide) g4)
    replace dY := hid (dY.out.growN dO.out (by decide) g4)
    replace dL := hid (dL.out.grown g4 (fun r hr => .inl (FF.out r hr)))
    have RR : Hid (∀ g, (Value.slice va4 (M + 1) vc4).ownBlock = some g → F g ∨ SZ ≤ g) := fun g e => by rcases r4 with r | r; exact .inl (FF.out g (by rw [← r]; exact e)); rw [r] at e; cases e; exact .inr s1
    have s4 : SZ ≤ w4.heap.size := by have := g4.size; omega
    replace dO := hid h4
    clear h4 g4 r4 XL
    refine hK.out _ _ ⟨dX.out.cellAt 0 _ rfl, RGH.out _ dY.out⟩ (fun hHeld => ?_)
    clear hK K
    (try simp only [Act.put, List.getElem_toArray, List.getElem_cons_succ, List.getElem_cons_zero, List.setIfInBounds_toArray, List.set_cons_zero, List.set_cons_succ])
    refine wpAnyH_take (i := 16) (v := .pointer (some ⟨D, 0, none⟩)) rfl (by kernel_rfl) (by kernel_rfl) (by kernel_rfl) (fun _ _ _ h => h) (Or.inl ⟨by rfl, ?_⟩) (by assumption) ?_
    · (intro w hSw; (try dsimp only at hSw); obtain ⟨h0, h1⟩ := hSw;  go_simp)
    (try simp only [Act.put, List.getElem_toArray, List.getElem_cons_succ, List.getElem_cons_zero, List.setIfInBounds_toArray, List.set_cons_zero, List.set_cons_succ])
    refine wpAnyH_take (i := 17) (v := .pointer (some ⟨D, 1, none⟩)) rfl (by kernel_rfl) (by kernel_rfl) (by kernel_rfl) (fun _ _ _ h => h) (Or.inl ⟨by rfl, ?_⟩) (by assumption) ?_
    · (intro w hSw; (try dsimp only at hSw); obtain ⟨h0, h1⟩ := hSw;  go_simp)
    (try simp only [Act.put, List.getElem_toArray, List.getElem_cons_succ, List.getElem_cons_zero, List.setIfInBounds_toArray, List.set_cons_zero, List.set_cons_succ])
    refine wpAnyH_ready (rs := [18]) (by kernel_rfl) (by simp) ?_
    refine AllReadyH.cons rfl (fun K hK => ?_) AllReadyH.nil
    have y := dX.out.cellAt 1 _ rfl
    have ff : w4.frozen? ⟨D, 1, none⟩ = false := dX.out.froz; have nO : ∀ g, (Value.slice va4 (M + 1) vc4).ownBlock = some g → g ≠ D := own_blk_ne dO.out dX.out (by decide); replace nO := hid nO
    go_simp
    clear y ff
    replace dX : Hid (Blk (w4.setCell ⟨D, 1, none⟩ (.slice va4 (M + 1) vc4)) D 56 #[.slice (some ⟨Bk, 0, none⟩) N N, .slice va4 (M + 1) vc4]) := dX.out.put (i := 1) (.slice va4 (M + 1) vc4)
    replace dY := hid (dY.out.cellO ⟨D, 1, none⟩ (.slice va4 (M + 1) vc4) nD)
    have oD : Hid (OwnE 61 65 Ws.cs 0 (w4.setCell ⟨D, 1, none⟩ (.slice va4 (M + 1) vc4)) (.slice va4 (M + 1) vc4) (M + 1) (ls ++ [⟨(k : Int), b⟩])) := own_cellO (a := ⟨D, 1, none⟩) dO.out nO.out (.slice va4 (M + 1) vc4)
    replace dL := hid (dL.out.setCell ⟨D, 1, none⟩ (.slice va4 (M + 1) vc4) (.inl FD.out))
    have s5 : SZ ≤ (w4.setCell ⟨D, 1, none⟩ (.slice va4 (M + 1) vc4)).heap.size := by simpa using s4
    clear dO
    generalize w4.setCell ⟨D, 1, none⟩ (.slice va4 (M + 1) vc4) = w5 at *
    refine hK.out _ _ ⟨dX.out.cellAt 0 _ rfl, RGH.out _ dY.out⟩ (fun hHeld => ?_)
    clear hK K
    (try simp only [Act.put, List.getElem_toArray, List.getElem_cons_succ, List.getElem_cons_zero, List.setIfInBounds_toArray, List.set_cons_zero, List.set_cons_succ])
    refine wpAnyH_done (by kernel_rfl) ?_ _
    clear hHeld
    go_wp2_with fail
    go_meet
    exact ⟨va4, vc4, oD, dX, dY, dL, RR, s5⟩
  case rest =>
  clear dX dY dO dL
  obtain ⟨va4, vc4, O, X, Y, OL, RR, s1⟩ := hcut
  have HLW := hid (holdsB_onl HL.out OL.out NE.out)
  generalize wc = w1 at *
  have hal := hid (alloc_blk w1)
  go_upto_region 9 with (refine wpList_alloc_l rfl 59 _ rfl hal.out ?_)
  have b1 := (Below.refl w1.heap.size w1).alloc (Nat.le_refl _) (.cells (bk []).toArray 59)
  have Z := hid (Blk.alloc w1 (bk []).toArray (59))
  have nq1 : D < w1.heap.size := X.out.lt
  have nq2 : Bk < w1.heap.size := Y.out.lt
  have qs : SZ ≤ w1.heap.size := s1
  have RB := hid (fun g e => (O.out.lt g e).2)
  replace X := hid (X.out.below b1)
  replace Y := hid (Y.out.below b1)
  replace O := hid (O.out.below b1)
  replace OL := hid (OL.out.alloc (.cells (bk []).toArray 59))
  replace HLW := hid (HLW.out.below b1)
  clear b1 hal s1
  generalize w1.alloc (.cells (bk []).toArray 59) = w2 at *
  generalize w1.heap.size = q at *
  have CP := hid (fun ty => copy_bytes w2 ty q pa pn pc l HLW.out hp Z.out)
  have Z2 := Blk.setCells (l.map (Value.int .u8)) 0 (bk []).toArray w2 Z.out (by simp [bk_len]; omega)
  rw [rep_bk hll] at Z2
  replace Z2 := hid Z2
  replace X := hid (X.out.setO (q := q) (vs := l.map (Value.int .u8)) (o := 0) (by omega))
  replace Y := hid (Y.out.setO (q := q) (vs := l.map (Value.int .u8)) (o := 0) (by omega))
  replace O := hid (O.out.setO (q := q) (vs := l.map (Value.int .u8)) (o := 0) (fun g e => by have := RB.out g e; omega))
  replace OL := hid (OL.out.setCells q 0 (l.map (Value.int .u8)) (.inr (by have := HW0.out; omega)))
  clear Z HLW
  have hcp := CP.out 3
  go_upto_region 10 with fail
  clear CP hcp
  generalize w2.setCells q 0 (l.map (Value.int .u8)) = w3 at *
  have dX := hid (show Blk w3.drew D 56 #[.slice (some ⟨Bk, 0, none⟩) N N, .slice va4 (M + 1) vc4] from X.out)
  have dY := hid (show Blk w3.drew Bk 59 FL.toArray from Y.out)
  have dO := hid (show OwnE 61 65 Ws.cs 0 w3.drew (.slice va4 (M + 1) vc4) (M + 1) (ls ++ [⟨(k : Int), b⟩]) from O.out)
  have dZ := hid (show Blk w3.drew q 59 (bk l).toArray from Z2.out)
  have dL := hid (show Onl F w w3.drew from OL.out.drew)
  clear X Y O Z2 OL

  have dS : w3.drew.cell? ⟨D, 0, none⟩ = some (.slice (some ⟨Bk, 0, none⟩) N N) ∧ w3.drew.rangeAt q 0 (bk l) := ⟨dX.out.cellAt 0 _ rfl, by have := dZ.out.range; simpa using this⟩
  refine wp_region_held_drew (S := fun W => W.cell? ⟨D, 0, none⟩ = some (.slice (some ⟨Bk, 0, none⟩) N N) ∧ W.rangeAt q 0 (bk l)) (by kernel_rfl) dS (fun hHeld => ?_)
  generalize w3.drew = wa at *
  refine wpAnyH_take (i := 0) (v := .pointer (some ⟨D, 0, none⟩)) rfl (by kernel_rfl) (by kernel_rfl) (by kernel_rfl) (fun _ _ _ h => h) (Or.inl ⟨by rfl, ?_⟩) (by assumption) ?_
  · (intro w hSw; (try dsimp only at hSw); obtain ⟨h0, h1⟩ := hSw;  go_simp)
  (try simp only [Act.put, List.getElem_toArray, List.getElem_cons_succ, List.getElem_cons_zero, List.setIfInBounds_toArray, List.set_cons_zero, List.set_cons_succ])
  refine wpAnyH_take (i := 1) (v := .pointer (some ⟨D, 0, none⟩)) rfl (by kernel_rfl) (by kernel_rfl) (by kernel_rfl) (fun _ _ _ h => h) (Or.inl ⟨by rfl, ?_⟩) (by assumption) ?_
  · (intro w hSw; (try dsimp only at hSw); obtain ⟨h0, h1⟩ := hSw;  go_simp)
  (try simp only [Act.put, List.getElem_toArray, List.getElem_cons_succ, List.getElem_cons_zero, List.setIfInBounds_toArray, List.set_cons_zero, List.set_cons_succ])
  refine wpAnyH_take (i := 2) (v := .pointer (some ⟨D, 0, none⟩)) rfl (by kernel_rfl) (by kernel_rfl) (by kernel_rfl) (fun _ _ _ h => h) (Or.inl ⟨by rfl, ?_⟩) (by assumption) ?_
  · (intro w hSw; (try dsimp only at hSw); obtain ⟨h0, h1⟩ := hSw;  go_simp)
  (try simp only [Act.put, List.getElem_toArray, List.getElem_cons_succ, List.getElem_cons_zero, List.setIfInBounds_toArray, List.set_cons_zero, List.set_cons_succ])
  refine wpAnyH_take (i := 3) (v := .slice (some ⟨Bk, 0, none⟩) N N) rfl (by kernel_rfl) (by kernel_rfl) (by kernel_rfl) (fun _ _ _ h => h) (Or.inl ⟨by rfl, ?_⟩) (by assumption) ?_
  · (intro w hSw; (try dsimp only at hSw); obtain ⟨h0, h1⟩ := hSw;  go_simp)
  (try simp only [Act.put, List.getElem_toArray, List.getElem_cons_succ, List.getElem_cons_zero, List.setIfInBounds_toArray, List.set_cons_zero, List.set_cons_succ])
  refine wpAnyH_take (i := 4) (v := .int .i64 (k : Int)) rfl (by kernel_rfl) (by kernel_rfl) (by kernel_rfl) (fun _ _ _ h => h) (Or.inl ⟨by rfl, ?_⟩) (by assumption) ?_
  · (intro w hSw; (try dsimp only at hSw); obtain ⟨h0, h1⟩ := hSw;  go_simp)
  (try simp only [Act.put, List.getElem_toArray, List.getElem_cons_succ, List.getElem_cons_zero, List.setIfInBounds_toArray, List.set_cons_zero, List.set_cons_succ])
  refine wpAnyH_take (i := 5) (v := .agg (bk l).toArray) rfl (by kernel_rfl) (by kernel_rfl) (by kernel_rfl) (fun _ _ _ h => h) (yieldsIf_load_mid (by rfl) 59 (.tmp 7) rfl q 0 rfl (bk l) _ (fun W hW => hW.2) Try.underlying59 rfl (by rw [bk_len]; exact sizeBlk)) (by assumption) ?_
  (try simp only [Act.put, List.getElem_toArray, List.getElem_cons_succ, List.getElem_cons_zero, List.setIfInBounds_toArray, List.set_cons_zero, List.set_cons_succ])
  refine wpAnyH_take (i := 6) (v := .pointer (some ⟨Bk, k * 64, none⟩)) rfl (by kernel_rfl) (by kernel_rfl) (by kernel_rfl) (fun _ _ _ h => h) (Or.inl ⟨by rfl, ?_⟩) (by assumption) ?_
  · (intro w hSw; (try dsimp only at hSw); obtain ⟨h0, h1⟩ := hSw;  go_simp)
  (try simp only [Act.put, List.getElem_toArray, List.getElem_cons_succ, List.getElem_cons_zero, List.setIfInBounds_toArray, List.set_cons_zero, List.set_cons_succ])
  refine wpAnyH_ready (rs := [7]) (by kernel_rfl) (by simp) ?_
  refine AllReadyH.cons rfl (fun K hK => ?_) AllReadyH.nil
  have hFL : k * 64 + 64 ≤ FL.length := by rw [← HFL.out, flat_len bk_len, HN.out]; have := HKK.out; omega
  have Y2 := Blk.setCells (bk l) (k * 64) FL.toArray wa dY.out (by simp [bk_len]; omega)
  rw [show FL.toArray.toList = FL from rfl, RFL.out] at Y2
  replace Y2 := hid Y2
  refine storeMid_step rfl 59 (.tmp 47) (.tmp 46) rfl Bk (k * 64) (bk l).toArray rfl rfl (there_blk dY.out (by simp [bk_len]; omega)) (by rw [List.size_toArray, bk_len]; exact sizeBlk) (all_oneCell_toArray (bk_one l)) ?_
  have X2 := hid (dX.out.setO (q := Bk) (vs := bk l) (o := k * 64) (Ne.symm nD))
  have Z3 := hid (dZ.out.setO (q := Bk) (vs := bk l) (o := k * 64) (by omega))
  have nB : ∀ g, (Value.slice va4 (M + 1) vc4).ownBlock = some g → g ≠ Bk := own_blk_ne dO.out dY.out (by decide)
  have O2 := hid (dO.out.setO (q := Bk) (vs := bk l) (o := k * 64) nB)
  have L2 := hid (dL.out.setCells Bk (k * 64) (bk l) (.inl FB.out))
  clear dX dY dO dZ dL nB
  generalize wa.setCells Bk (k * 64) (bk l) = w5 at *
  refine hK.out _ _ ⟨X2.out.cellAt 0 _ rfl, by have := Z3.out.range; simpa using this⟩ (fun hHeld => ?_)
  clear hK K
  (try simp only [Act.put, List.getElem_toArray, List.getElem_cons_succ, List.getElem_cons_zero, List.setIfInBounds_toArray, List.set_cons_zero, List.set_cons_succ])
  refine wpAnyH_done (by kernel_rfl) ?_ _
  clear hHeld
  go_wp2_with fail
  go_ret
  refine ⟨rfl, ⟨fun g => g = D ∨ g = Bk ∨ (Value.slice va4 (M + 1) vc4).ownBlock = some g, ⟨Bk, .slice va4 (M + 1) vc4, ?_, Y2.out, ?_, .inl rfl, .inr (.inl rfl), fun g e => .inr (.inr e), ?_⟩, ?_⟩, L2.out⟩
  · rw [List.length_set, HN.out]; exact X2.out
  · rw [List.length_append, HM.out]; exact O2.out
  · intro g e
    rcases e with rfl | rfl | e
    · exact X2.out.lt
    · exact Y2.out.lt
    · exact (O2.out.lt g e).2
  · intro g e
    rcases e with rfl | rfl | e
    · exact .inl FD.out
    · exact .inl FB.out
    · exact (RR.out g e).imp id (fun h => by rw [HW0.out]; exact h)
end Go.Proofs.Ytpkifcoichjnbaa

namespace Go.Proofs.Ytpkifcoichjnbaa
open Go.RowKit Go.Deep Go.Maps
set_option linter.unusedVariables false
set_option linter.unusedSimpArgs false
/-- The blocks, with these writes taken back. -/
def und (bs : List (List Int)) (ls : List Ws) : List (List Int) := ls.foldr (fun x b => b.set x.n.toNat x.b) bs
theorem und_len (bs : List (List Int)) : ∀ ls, (und bs ls).length = bs.length
  | [] => rfl
  | x :: r => by show ((und bs r).set x.n.toNat x.b).length = _; rw [List.length_set, und_len bs r]
theorem und_drop (bs : List (List Int)) (ls : List Ws) {j : Nat} (h : j < ls.length) : und bs (ls.drop j) = (und bs (ls.drop (j + 1))).set ls[j].n.toNat ls[j].b := by
  rw [List.drop_eq_getElem_cons h]; rfl
set_option maxRecDepth 100000 in
theorem crash_nil (n : Int) (w : World) :
    Calls Try.prog 14 #[.pointer none, .int .i64 n] w fun e w' => e = .returned (.int .i64 17) ∧ w = w' := by
  go_enter Try.func14, Try.ntmps14
  go_wp2_with fail
  go_ret
  exact ⟨rfl, rfl⟩
set_option maxRecDepth 100000 in
theorem crash_arg (D : Nat) (n : Int) (w : World) (h : n < 0) :
    Calls Try.prog 14 #[.pointer (some ⟨D, 0, none⟩), .int .i64 n] w fun e w' => e = .returned (.int .i64 1) ∧ w = w' := by
  go_enter Try.func14, Try.ntmps14
  go_wp2_with fail
  go_ret
  exact ⟨rfl, rfl⟩
set_option maxRecDepth 100000 in
set_option maxHeartbeats 4000000 in
theorem crash_any (F : Nat → Prop) (D : Nat) (bs : List (List Int)) (ls : List Ws) (kp : Int) (w : World) (h : Dk F w D bs ls) (h0 : 0 ≤ kp) (h1 : kp ≤ 9223372036854775807) (hx : ∀ x ∈ ls, 0 ≤ x.n ∧ x.n < bs.length) (hm : ls.length ≤ 1000000) :
    Calls Try.prog 14 #[.pointer (some ⟨D, 0, none⟩), .int .i64 kp] w fun e w' => e = .returned (.int .i64 0) ∧ Dk F w' D (und bs (ls.drop kp.toNat)) [] ∧ Onl F w w' := by
  obtain ⟨Bk, vL, X, Y, O, f1, f2, f3, f4⟩ := h
  have nD : Bk ≠ D := by
    rintro rfl
    unfold Blk at X Y
    rw [X] at Y
    simp at Y
  obtain ⟨va, vc, rfl⟩ := O.form
  have FX := hid f4
  have FD := hid f1
  have FB := hid f2
  have HX := hid hx
  have HM := hid hm
  have OL := hid (Onl.refl F w)
  replace X := hid X
  replace Y := hid Y
  replace O := hid O
  have ML := hid O.out.len
  obtain ⟨m, hmm⟩ : ∃ m, ls.length = m := ⟨_, rfl⟩
  rw [hmm] at X O
  have HMM := hid hmm
  have hmb : m ≤ 1000000 := by omega
  obtain ⟨N, hNN⟩ : ∃ N, bs.length = N := ⟨_, rfl⟩
  rw [hNN] at X
  have HN := hid hNN
  have t0 : ¬ kp < 0 := by omega
  have c1 := X.out.cellAt 1 _ rfl
  clear f1 f2 f3 f4 hx hm hmm hNN ML
  go_enter Try.func14, Try.ntmps14
  go_wp2_with fail
  clear c1
  go_loopw [5] (fun i wr => ∃ j : Nat, j ≤ m ∧ i = .int .i64 ((j : Int) - 1) ∧ (kp ≤ (j : Int) ∨ j = m) ∧ Hid (Blk wr D 56 #[.slice (some ⟨Bk, 0, none⟩) N N, .slice va m vc]) ∧ Hid (Blk wr Bk 59 ((und bs (ls.drop j)).flatMap bk).toArray) ∧ Hid (OwnE 61 65 Ws.cs 0 wr (.slice va m vc) m ls) ∧ Hid (Onl F w wr)) (fun i _ => (intOf i + 1).toNat)
  case atStart => exact ⟨m, by omega, rfl, .inr rfl, X, (by rw [List.drop_of_length_le (by rw [HMM.out]; omega)]; exact Y), O, OL⟩
  case round =>
    clear X Y O OL
    obtain ⟨j, hj, rfl, hjk, X, Y, O, OL⟩ := hrel
    by_cases hlt : kp < (j : Int)
    · obtain ⟨i, rfl⟩ : ∃ i, j = i + 1 := ⟨j - 1, by omega⟩
      have e1 : (((i + 1 : Nat) : Int) - 1) = (i : Int) := by omega
      rw [e1]
      have tk : kp ≤ (i : Int) := by omega
      have hi : i < ls.length := by rw [HMM.out]; omega
      have ka : (0 : Int) ≤ (i : Int) := by omega
      have kb : (i : Int) < (m : Int) := by omega
      have hxi := HX.out _ (List.getElem_mem hi)
      have UD := hid (und_drop bs ls hi)
      have UL := hid (und_len bs (ls.drop (i + 1)))
      have ULi := hid (und_len bs (ls.drop i))
      have HO := O.out.holds Ws.cs_len
      obtain ⟨b, off, rfl, hbl, RI⟩ := HO.rangeAt (by omega)
      have RG := hid (RI i ls[i] (List.getElem?_eq_getElem hi))
      generalize ls[i] = x at *
      obtain ⟨xn, xb⟩ := x
      obtain ⟨p, rfl⟩ : ∃ p : Nat, xn = (p : Int) := ⟨xn.toNat, by have := hxi.1; simp only at this; omega⟩
      have pN : p < N := by have := hxi.2; simp only at this; have := HN.out; omega
      have pa : (0 : Int) ≤ (p : Int) := by omega
      have pb : (p : Int) < (N : Int) := by omega
      clear hxi HO RI
      generalize und bs (ls.drop (i + 1)) = US at *
      have c1 := X.out.cellAt 1 _ rfl
      have hal := hid (alloc_wri wr)
      go_upto_region 9 with (first | refine wpList_load_mid rfl 61 (.tmp 29) rfl _ _ rfl (Ws.cs ⟨(p : Int), xb⟩) _ RG.out Try.underlying61 rfl (by rw [Ws.cs_len]; exact sizeWri) ?_ | refine wpList_alloc_l rfl 61 _ rfl hal.out ?_ | refine wpList_store_row rfl 61 (.tmp 6) (.tmp 30) rfl wr.heap.size (Ws.cs ⟨(p : Int), xb⟩).toArray rfl rfl 61 _ (heap_alloc_new wr _) (by rw [List.size_toArray, Ws.cs_len]; exact sizeWri) (by rw [List.size_toArray, List.size_toArray, Ws.cs_len, Ws.cs_len]) (all_oneCell_toArray (Ws.one _)) ?_)
      rw [alloc_row]
      have b1 := (Below.refl wr.heap.size wr).alloc (Nat.le_refl _) (.cells (Ws.cs ⟨(p : Int), xb⟩).toArray 61)
      have Z := hid (Blk.alloc wr (Ws.cs ⟨(p : Int), xb⟩).toArray (61))
      have nq1 : D < wr.heap.size := X.out.lt
      have nq2 : Bk < wr.heap.size := Y.out.lt
      replace X := hid (X.out.below b1)
      replace Y := hid (Y.out.below b1)
      replace O := hid (O.out.below b1)
      replace OL := hid (OL.out.alloc (.cells (Ws.cs ⟨(p : Int), xb⟩).toArray 61))
      clear b1 hal c1 RG
      generalize wr.alloc (.cells (Ws.cs ⟨(p : Int), xb⟩).toArray 61) = w2 at *
      generalize wr.heap.size = q at *
      have dX := hid (show Blk w2.drew D 56 #[.slice (some ⟨Bk, 0, none⟩) N N, .slice (some ⟨b, off, none⟩) m vc] from X.out)
      have dY := hid (show Blk w2.drew Bk 59 (US.flatMap bk).toArray from Y.out)
      have dO := hid (show OwnE 61 65 Ws.cs 0 w2.drew (.slice (some ⟨b, off, none⟩) m vc) m ls from O.out)
      have dZ := hid (show Blk w2.drew q 61 (Ws.cs ⟨(p : Int), xb⟩).toArray from Z.out)
      have dL := hid (show Onl F w w2.drew from OL.out.drew)
      clear X Y O Z OL
      have dS : w2.drew.cell? ⟨D, 0, none⟩ = some (.slice (some ⟨Bk, 0, none⟩) N N) ∧ w2.drew.rangeAt q 0 (Ws.cs ⟨(p : Int), xb⟩) := ⟨dX.out.cellAt 0 _ rfl, by have := dZ.out.range; simpa using this⟩
      refine wp_region_held_drew (S := fun W => W.cell? ⟨D, 0, none⟩ = some (.slice (some ⟨Bk, 0, none⟩) N N) ∧ W.rangeAt q 0 (Ws.cs ⟨(p : Int), xb⟩)) (by kernel_rfl) dS (fun hHeld => ?_)
      generalize w2.drew = wa at *
      refine wpAnyH_take (i := 0) (v := .pointer (some ⟨D, 0, none⟩)) rfl (by kernel_rfl) (by kernel_rfl) (by kernel_rfl) (fun _ _ _ h => h) (Or.inl ⟨by rfl, ?_⟩) (by assumption) ?_
      · (intro w hSw; (try dsimp only at hSw); obtain ⟨h0, h1⟩ := hSw;  go_simp)
      (try simp only [Act.put, List.getElem_toArray, List.getElem_cons_succ, List.getElem_cons_zero, List.setIfInBounds_toArray, List.set_cons_zero, List.set_cons_succ])
      refine wpAnyH_take (i := 1) (v := .pointer (some ⟨D, 0, none⟩)) rfl (by kernel_rfl) (by kernel_rfl) (by kernel_rfl) (fun _ _ _ h => h) (Or.inl ⟨by rfl, ?_⟩) (by assumption) ?_
      · (intro w hSw; (try dsimp only at hSw); obtain ⟨h0, h1⟩ := hSw;  go_simp)
      (try simp only [Act.put, List.getElem_toArray, List.getElem_cons_succ, List.getElem_cons_zero, List.setIfInBounds_toArray, List.set_cons_zero, List.set_cons_succ])
      refine wpAnyH_take (i := 2) (v := .pointer (some ⟨D, 0, none⟩)) rfl (by kernel_rfl) (by kernel_rfl) (by kernel_rfl) (fun _ _ _ h => h) (Or.inl ⟨by rfl, ?_⟩) (by assumption) ?_
      · (intro w hSw; (try dsimp only at hSw); obtain ⟨h0, h1⟩ := hSw;  go_simp)
      (try simp only [Act.put, List.getElem_toArray, List.getElem_cons_succ, List.getElem_cons_zero, List.setIfInBounds_toArray, List.set_cons_zero, List.set_cons_succ])
      refine wpAnyH_take (i := 3) (v := .slice (some ⟨Bk, 0, none⟩) N N) rfl (by kernel_rfl) (by kernel_rfl) (by kernel_rfl) (fun _ _ _ h => h) (Or.inl ⟨by rfl, ?_⟩) (by assumption) ?_
      · (intro w hSw; (try dsimp only at hSw); obtain ⟨h0, h1⟩ := hSw;  go_simp)
      (try simp only [Act.put, List.getElem_toArray, List.getElem_cons_succ, List.getElem_cons_zero, List.setIfInBounds_toArray, List.set_cons_zero, List.set_cons_succ])
      refine wpAnyH_take (i := 4) (v := .pointer (some ⟨q, 0, none⟩)) rfl (by kernel_rfl) (by kernel_rfl) (by kernel_rfl) (fun _ _ _ h => h) (Or.inl ⟨by rfl, ?_⟩) (by assumption) ?_
      · (intro w hSw; (try dsimp only at hSw); obtain ⟨h0, h1⟩ := hSw;  go_simp)
      (try simp only [Act.put, List.getElem_toArray, List.getElem_cons_succ, List.getElem_cons_zero, List.setIfInBounds_toArray, List.set_cons_zero, List.set_cons_succ])
      refine wpAnyH_take (i := 5) (v := .int .i64 (p : Int)) rfl (by kernel_rfl) (by kernel_rfl) (by kernel_rfl) (fun _ _ _ h => h) (Or.inl ⟨by rfl, ?_⟩) (by assumption) ?_
      · (intro w hSw; (try dsimp only at hSw); obtain ⟨h0, h1⟩ := hSw; have hc := h1 0 (.int .i64 (p : Int)) rfl; go_simp)
      (try simp only [Act.put, List.getElem_toArray, List.getElem_cons_succ, List.getElem_cons_zero, List.setIfInBounds_toArray, List.set_cons_zero, List.set_cons_succ])
      refine wpAnyH_take (i := 6) (v := .pointer (some ⟨q, 1, none⟩)) rfl (by kernel_rfl) (by kernel_rfl) (by kernel_rfl) (fun _ _ _ h => h) (Or.inl ⟨by rfl, ?_⟩) (by assumption) ?_
      · (intro w hSw; (try dsimp only at hSw); obtain ⟨h0, h1⟩ := hSw;  go_simp)
      (try simp only [Act.put, List.getElem_toArray, List.getElem_cons_succ, List.getElem_cons_zero, List.setIfInBounds_toArray, List.set_cons_zero, List.set_cons_succ])
      refine wpAnyH_take (i := 7) (v := .agg (bk xb).toArray) rfl (by kernel_rfl) (by kernel_rfl) (by kernel_rfl) (fun _ _ _ h => h) (yieldsIf_load_mid (by rfl) 59 (.tmp 37) rfl q 1 rfl (bk xb) _ (fun W hW => fun j v hv => by have := hW.2 (j + 1) v (by simpa [Ws.cs] using hv); rwa [Nat.zero_add, Nat.add_comm] at this) Try.underlying59 rfl (by rw [bk_len]; exact sizeBlk)) (by assumption) ?_
      (try simp only [Act.put, List.getElem_toArray, List.getElem_cons_succ, List.getElem_cons_zero, List.setIfInBounds_toArray, List.set_cons_zero, List.set_cons_succ])
      refine wpAnyH_take (i := 8) (v := .pointer (some ⟨Bk, p * 64, none⟩)) rfl (by kernel_rfl) (by kernel_rfl) (by kernel_rfl) (fun _ _ _ h => h) (Or.inl ⟨by rfl, ?_⟩) (by assumption) ?_
      · (intro w hSw; (try dsimp only at hSw); obtain ⟨h0, h1⟩ := hSw;  go_simp)
      (try simp only [Act.put, List.getElem_toArray, List.getElem_cons_succ, List.getElem_cons_zero, List.setIfInBounds_toArray, List.set_cons_zero, List.set_cons_succ])
      refine wpAnyH_ready (rs := [9]) (by kernel_rfl) (by simp) ?_
      refine AllReadyH.cons rfl (fun K hK => ?_) AllReadyH.nil
      have hUS : p < US.length := by rw [UL.out, HN.out]; exact pN
      have hFL : p * 64 + 64 ≤ (US.flatMap bk).length := by rw [flat_len bk_len]; omega
      have Y2 := Blk.setCells (bk xb) (p * 64) (US.flatMap bk).toArray wa dY.out (by rw [List.size_toArray, bk_len]; exact hFL)
      rw [show (US.flatMap bk).toArray.toList = US.flatMap bk from rfl, rep_flat hUS] at Y2
      replace Y2 := hid Y2
      refine storeMid_step rfl 59 (.tmp 39) (.tmp 38) rfl Bk (p * 64) (bk xb).toArray rfl rfl (there_blk dY.out (by rw [List.size_toArray, List.size_toArray, bk_len]; exact hFL)) (by rw [List.size_toArray, bk_len]; exact sizeBlk) (all_oneCell_toArray (bk_one xb)) ?_
      have X2 := hid (dX.out.setO (q := Bk) (vs := bk xb) (o := p * 64) (Ne.symm nD))
      have Z3 := hid (dZ.out.setO (q := Bk) (vs := bk xb) (o := p * 64) (by omega))
      have nB := own_blk_ne dO.out dY.out (by decide)
      have O2 := hid (dO.out.setO (q := Bk) (vs := bk xb) (o := p * 64) nB)
      have L2 := hid (dL.out.setCells Bk (p * 64) (bk xb) (.inl FB.out))
      clear dX dY dO dZ dL nB
      generalize wa.setCells Bk (p * 64) (bk xb) = w5 at *
      refine hK.out _ _ ⟨X2.out.cellAt 0 _ rfl, by have := Z3.out.range; simpa using this⟩ (fun hHeld => ?_)
      clear hK K
      (try simp only [Act.put, List.getElem_toArray, List.getElem_cons_succ, List.getElem_cons_zero, List.setIfInBounds_toArray, List.set_cons_zero, List.set_cons_succ])
      refine wpAnyH_done (by kernel_rfl) ?_ _
      clear hHeld
      go_wp2_with fail
      have Y3 : Hid (Blk w5 Bk 59 ((und bs (ls.drop i)).flatMap bk).toArray) := by unfold Hid; rw [UD.out]; exact Y2.out
      refine ⟨⟨i, by omega, by go_num, .inl tk, X2, Y3, O2, L2⟩, ?_⟩
      simp [intOf]
      try omega
    · have tk : ¬ kp ≤ (j : Int) - 1 := by omega
      have ED : Hid (und bs (ls.drop j) = und bs (ls.drop kp.toNat)) := by
        unfold Hid
        have hml := HMM.out
        rcases hjk with h | h
        · rw [show kp.toNat = j by omega]
        · rw [List.drop_of_length_le (show ls.length ≤ j by omega), List.drop_of_length_le (show ls.length ≤ kp.toNat by omega)]
      have c1 := X.out.cellAt 1 _ rfl
      have ff : wr.frozen? ⟨D, 1, none⟩ = false := X.out.froz
      clear hjk hlt
      go_wp2_with fail
      go_ret
      have YY := Y.out
      rw [ED.out] at YY
      have o := OL.out.setCell ⟨D, 1, none⟩ (.slice none 0 0) (.inl FD.out)
      refine ⟨rfl, ⟨Bk, .slice none 0 0, ?_, YY.cellO _ _ nD, OwnE.nil _ _ _ _ _, FD.out, FB.out, (fun g e => by simp [Value.ownBlock] at e), fun k hk => Nat.lt_of_lt_of_le (FX.out k hk) o.size⟩, o⟩
      have := X.out.put (i := 1) (.slice none 0 0)
      rw [und_len, HN.out]
      exact this
end Go.Proofs.Ytpkifcoichjnbaa

namespace Go.Proofs.Ytpkifcoichjnbaa
open Go.RowKit Go.Deep Go.Maps
set_option linter.unusedVariables false
set_option linter.unusedSimpArgs false
set_option maxRecDepth 100000 in
theorem sync_nil (w : World) : Calls Try.prog 12 #[.pointer none] w fun e w' => e = .returned (.int .i64 17) ∧ w = w' := by
  go_enter Try.func12, Try.ntmps12
  go_wp2_with fail
  go_ret
  exact ⟨rfl, rfl⟩
set_option maxRecDepth 100000 in
theorem loose_nil (w : World) : Calls Try.prog 19 #[.pointer none] w fun e w' => e = .returned (.int .i64 0) ∧ w = w' := by
  go_enter Try.func19, Try.ntmps19
  go_wp2_with fail
  go_ret
  exact ⟨rfl, rfl⟩
set_option maxRecDepth 100000 in
theorem blocks_nil (w : World) : Calls Try.prog 20 #[.pointer none] w fun e w' => e = .returned (.int .i64 0) ∧ w = w' := by
  go_enter Try.func20, Try.ntmps20
  go_wp2_with fail
  go_ret
  exact ⟨rfl, rfl⟩
theorem lit1 (w : World) (x : Int) (h0 : 0 ≤ x) (h1 : x ≤ 255) : HoldsB (w.alloc (.cells #[.int .u8 x] 5)) (some ⟨w.heap.size, 0, none⟩) 1 1 [x] := by
  refine ⟨rfl, by omega, by omega, by omega, BB.one h0 h1, fun e => (by cases e), fun _ => ⟨w.heap.size, 0, rfl, fun i hi => ?_⟩⟩
  obtain rfl : i = 0 := by omega
  have := (Blk.alloc w #[.int .u8 x] (5)).cellAt 0 (.int .u8 x) rfl
  rw [Nat.zero_add, this]
  rfl
set_option maxRecDepth 100000 in
set_option maxHeartbeats 4000000 in
theorem awake14_any (w : World) : Calls Try.prog 7 #[] w fun e w' => e = .returned (.bool true) ∧ Below w.heap.size w w' := by
  have C := hid (new_any 4 w (by omega) (by omega))
  rw [show (((4 : Nat) : Int)) = 4 from rfl] at C
  go_enter Try.func7, Try.ntmps7
  go_wp2_with fail
  with_reducible refine C.out.mono ?_
  rintro e W1 ⟨D, rfl, ⟨F, dk, hF⟩, b1⟩
  clear C
  -- Write(0, [1])
  have ba := (Below.refl W1.heap.size W1).alloc (Nat.le_refl _) (.cells #[.int .u8 1] 5)
  have FX : ∀ k, F k → k < W1.heap.size := by obtain ⟨_, _, _, _, _, _, _, _, h⟩ := dk; exact h
  have C := hid (write_in F D (List.replicate 4 []) [] 0 (some ⟨W1.heap.size, 0, none⟩) 1 1 [1] (W1.alloc (.cells #[.int .u8 1] 5)) (dk.below ba) (by simp) (by omega) (lit1 W1 1 (by omega) (by omega)) (fun b o e _ h => by cases e; have := FX _ h; omega) (by simp))
  rw [show (((0 : Nat) : Int)) = 0 from rfl] at C
  have B0 := hid (b1.trans (ba.mono b1.size))
  have HF := hid hF
  have sz : w.heap.size ≤ (W1.alloc (.cells #[.int .u8 1] 5)).heap.size := B0.out.size
  clear ba FX dk b1 hF
  go_wp2_with fail
  with_reducible refine C.out.mono ?_
  rintro e W2 ⟨rfl, ⟨F2, dk, hF2⟩, o2⟩
  have dk : Dk F2 W2 D [[1], [], [], []] [⟨0, []⟩] := dk
  have B2 := hid (o2.below B0.out HF.out)
  have HF2 : Hid (∀ k, F2 k → w.heap.size ≤ k) := fun k h => (hF2 k h).elim (HF.out k) (fun h => by omega)
  clear C B0 HF hF2 o2 sz
  generalize (W1.alloc (.cells #[.int .u8 1] 5)) = Wx at *
  -- Sync
  have C := hid (sync_any F2 D _ _ W2 dk)
  clear dk
  go_wp2_with fail
  with_reducible refine C.out.mono ?_
  rintro e W3 ⟨rfl, dk, o3⟩
  have B3 := hid (o3.below B2.out HF2.out)
  clear C B2 o3
  -- Write(0, [2])
  have ba := (Below.refl W3.heap.size W3).alloc (Nat.le_refl _) (.cells #[.int .u8 2] 5)
  have FX : ∀ k, F2 k → k < W3.heap.size := by obtain ⟨_, _, _, _, _, _, _, _, h⟩ := dk; exact h
  have C := hid (write_in F2 D [[1], [], [], []] [] 0 (some ⟨W3.heap.size, 0, none⟩) 1 1 [2] (W3.alloc (.cells #[.int .u8 2] 5)) (dk.below ba) (by simp) (by omega) (lit1 W3 2 (by omega) (by omega)) (fun b o e _ h => by cases e; have := FX _ h; omega) (by simp))
  rw [show (((0 : Nat) : Int)) = 0 from rfl] at C
  have B4 := hid (B3.out.trans (ba.mono B3.out.size))
  have sz : w.heap.size ≤ (W3.alloc (.cells #[.int .u8 2] 5)).heap.size := B4.out.size
  clear ba FX dk B3
  go_wp2_with fail
  with_reducible refine C.out.mono ?_
  rintro e W5 ⟨rfl, ⟨F5, dk, hF5⟩, o5⟩
  have dk : Dk F5 W5 D [[2], [], [], []] [⟨0, [1]⟩] := dk
  have B5 := hid (o5.below B4.out HF2.out)
  have HF5 : Hid (∀ k, F5 k → w.heap.size ≤ k) := fun k h => (hF5 k h).elim (HF2.out k) (fun h => by omega)
  clear C B4 HF2 hF5 o5 sz
  generalize (W3.alloc (.cells #[.int .u8 2] 5)) = Wy at *
  -- Loose
  have C := hid (loose_any F5 D _ _ W5 dk)
  rw [show ((([⟨0, [1]⟩] : List Ws).length : Nat) : Int) = 1 from rfl] at C
  go_wp2_with fail
  with_reducible refine C.out.mono ?_
  rintro e W6 ⟨rfl, rfl⟩
  clear C
  -- Crash(0)
  have C := hid (crash_any F5 D [[2], [], [], []] [⟨0, [1]⟩] 0 W5 dk (by omega) (by omega) (by intro x hx; simp only [List.mem_singleton] at hx; subst hx; simp) (by simp))
  clear dk
  go_wp2_with fail
  with_reducible refine C.out.mono ?_
  rintro e W7 ⟨rfl, dk, o7⟩
  have dk : Dk F5 W7 D [[1], [], [], []] [] := dk
  have B7 := hid (o7.below B5.out HF5.out)
  clear C B5 o7
  -- Read(0)
  have C := hid (read_in F5 D [[1], [], [], []] [] 0 W7 dk (by simp))
  rw [show (((0 : Nat) : Int)) = 0 from rfl] at C
  go_wp2_with fail
  with_reducible refine C.out.mono ?_
  rintro e W8 ⟨q, rfl, hq, hb, b8⟩
  have c0 := hb.cellAt 0 (.int .u8 1) rfl
  have C2 := hid (blocks_any F5 D _ _ W8 (dk.below b8))
  rw [show ((([[1], [], [], []] : List (List Int)).length : Nat) : Int) = 4 from rfl] at C2
  have B8 := hid (B7.out.trans (b8.mono B7.out.size))
  clear C dk hb b8 B7
  go_wp2_with fail
  with_reducible refine C2.out.mono ?_
  rintro e W9 ⟨rfl, rfl⟩
  clear C2 c0
  go_wp2_with fail
  go_ret
  exact ⟨rfl, B8.out⟩
end Go.Proofs.Ytpkifcoichjnbaa

namespace Go.Proofs.Ytpkifcoichjnbaa
open Go.RowKit Go.Deep Go.Maps
open Go.ChangeShapes Go.WideShapes Go.ChangeAt
set_option linter.unusedVariables false
set_option linter.unusedSimpArgs false
structure Opp where
  kd : Int
  n : Int
  sa : Option Addr
  sl : Nat
  sc : Nat
  p : List Int
def Opp.cs (x : Opp) : List Value := [.int .i64 x.kd, .int .i64 x.n, .slice x.sa x.sl x.sc]
theorem Opp.cs_len (x : Opp) : x.cs.length = 3 := rfl
theorem Opp.one (x : Opp) : ∀ u ∈ x.cs, u.oneCell' = true := by
  intro u hu
  simp [Opp.cs] at hu
  rcases hu with rfl | rfl | rfl <;> rfl
instance : Inhabited Opp := ⟨⟨0, 0, none, 0, 0, []⟩⟩
/-- What a list of calls reads as. -/
def HoldsO (w : World) (a : Option Addr) (len cap : Nat) (l : List Opp) : Prop := HoldsE 3 Opp.cs w a len cap l ∧ ∀ x ∈ l, HoldsB w x.sa x.sl x.sc x.p
theorem HoldsO.below {w w' : World} {a : Option Addr} {len cap : Nat} {l : List Opp} (h : HoldsO w a len cap l) (hb : Below w.heap.size w w') : HoldsO w' a len cap l := ⟨h.1.below hb, fun x hx => (h.2 x hx).below hb⟩
section
variable {H : Type} {enc : TypeId × Value → H} {w : World} {base b0 : Nat} {spare : Nat → Bool} {held : Bool} {r : Reach} {v : Value} {d : DataW H} {p : List MemPlace} {fuel : Nat} {cs : List Value} {x : DataW H × List MemPlace}
set_option maxRecDepth 100000 in
theorem trod_opp (h : DataW.trod enc Try.prog w base (fun _ => true) held fuel 36 cs = some x) : ∃ q : Opp, cs = q.cs ∧ HoldsB w q.sa q.sl q.sc q.p ∧ I64 q.n := by
  obtain ⟨xs, n, _, hxe, hl, hx, hf⟩ := DataW.trod_struct Try.underlying36 h
  have hc : Try.prog.cellsOf 36 = 3 := by kernel_rfl
  have hc1 : Try.prog.cellsOf 5 = 1 := by kernel_rfl
  have hc2 : Try.prog.cellsOf 3 = 1 := by kernel_rfl
  have hc3 : Try.prog.cellsOf 34 = 1 := by kernel_rfl
  rw [hc] at hl
  match cs, hl with
  | [c0, c1, c2], _ =>
    have f0 := hf 0 _ rfl
    have f1 := hf 1 _ rfl
    have f2 := hf 2 _ rfl
    simp only [List.getElem_toArray, List.getElem_cons_zero, List.getElem_cons_succ] at f0 f1 f2
    rw [hc2] at f0 f1
    rw [hc3] at f2
    have hxs : xs.length = 3 := by rw [hx]; rfl
    rw [List.getElem?_eq_getElem (by omega)] at f0 f1 f2
    obtain ⟨a0, e0, _, w0⟩ := DataW.trod_int Try.underlying3 f0
    obtain ⟨a1, e1, _, w1⟩ := DataW.trod_int Try.underlying3 f1
    simp at e0 e1
    subst e0 e1
    rcases open_ints Try.underlying34 Try.underlying5 hc1 f2 with ⟨e3, _⟩ | ⟨ad, len, cap, zs, e3, _, h1, h2, h3, h4, h5, h6⟩
    · simp at e3
      subst e3
      exact ⟨⟨a0, a1, none, 0, 0, []⟩, rfl, holdsB_none _, bounds_i64 w1⟩
    · simp at e3
      subst e3
      simp only [if_true] at h3
      exact ⟨⟨a0, a1, some ad, len, cap, zs.take len⟩, rfl, holdsB_row (zs := zs) (.inr ⟨ad, rfl, h1, h2, h3, h5, h6⟩), bounds_i64 w1⟩
set_option maxRecDepth 100000 in
/-- A list of calls that came in. -/
theorem val_rowO {t : TypeId} {a : Option Addr} {len cap : Nat} (ht : Try.prog.underlying t = some (.slice 36))
    (h : DataW.Trod enc Try.prog w base (fun _ => true) held t (.slice a len cap) d p) : ∃ l : List Opp, HoldsO w a len cap l ∧ ∀ q ∈ l, I64 q.n := by
  have hc : Try.prog.cellsOf 36 = 3 := by kernel_rfl
  obtain ⟨fuel, hf⟩ := h
  rcases open_slice ht hf with ⟨hcs, _⟩ | ⟨x, l, c, m, n, D, Pl, hcs, _, hl, hm, hmm, hx, hi⟩
  · simp [Value.cells] at hcs
    obtain ⟨rfl, rfl, rfl⟩ := hcs
    exact ⟨[], ⟨⟨rfl, by omega, by omega, fun _ => ⟨rfl, rfl⟩, fun h => absurd h (by omega)⟩, fun q hq => by cases hq⟩, (fun q hq => by cases hq)⟩
  · simp [Value.cells] at hcs
    obtain ⟨rfl, rfl, rfl⟩ := hcs
    simp only [if_true] at hmm
    subst hmm
    rw [hc] at hi
    have hg : ∀ i, i < len → ∃ q : Opp, (HoldsB w q.sa q.sl q.sc q.p ∧ I64 q.n) ∧ ∀ j u, q.cs[j]? = some u → w.cell? (x.add (i * 3 + j)) = some u := fun i hlt => by
      obtain ⟨cs', h1, h2⟩ := hi i (by omega)
      obtain ⟨q, e1, hq⟩ := trod_opp h2
      obtain ⟨_, h3, h4⟩ := World.cells?_some h1
      refine ⟨q, hq, fun j u hu => ?_⟩
      have hj : j < 3 := by have := (List.getElem?_eq_some_iff.1 hu).1; rw [Opp.cs_len] at this; exact this
      have := h4 j hj
      rw [Go.Deep.add_add, e1, hu] at this
      exact this
    have hcase : ∃ f : Nat → Opp, ∀ i, i < len → (HoldsB w (f i).sa (f i).sl (f i).sc (f i).p ∧ I64 (f i).n) ∧ ∀ j u, (f i).cs[j]? = some u → w.cell? (x.add (i * 3 + j)) = some u := by
      refine ⟨fun i => if h : i < len then (hg i h).choose else default, fun i hlt => ?_⟩
      simp only [dif_pos hlt]
      exact (hg i hlt).choose_spec
    obtain ⟨f, hf2⟩ := hcase
    unfold maxLen at hm
    refine ⟨(List.range len).map f, ⟨⟨by simp, hl, by omega, (fun h => by cases h), fun hp => ?_⟩, ?_⟩, ?_⟩
    · have h0 := (hf2 0 hp).2 0 _ rfl
      have hsp := cell_spot h0
      obtain ⟨b, o, s⟩ := x
      have hs : s = none := by
        cases s with
        | none => rfl
        | some y => simp [Addr.add] at hsp
      subst hs
      refine ⟨b, o, rfl, ?_, fun j y hy i u hu => ?_⟩
      · have := World.block_lt_of_cell? w _ h0
        simpa [Addr.add] using this
      · have hj : j < len := by have := (List.getElem?_eq_some_iff.1 hy).1; simpa using this
        rw [List.getElem?_map, List.getElem?_range hj] at hy
        simp at hy
        subst hy
        have := (hf2 j hj).2 i u hu
        rw [Addr.add_lit, ← Nat.add_assoc] at this
        exact this
    · intro q hq
      obtain ⟨i, hi1, rfl⟩ := List.mem_map.1 hq
      exact (hf2 i (by simpa using hi1)).1.1
    · intro q hq
      obtain ⟨i, hi1, rfl⟩ := List.mem_map.1 hq
      exact (hf2 i (by simpa using hi1)).1.2
end
set_option maxRecDepth 100000 in
theorem sizeOpp : (Try.prog.info? 36).map (·.size) = some 3 := by kernel_rfl
/-- Is a write taken? Its error, the blocks and the loose writes behind it. -/
def wOk (N : Nat) (n : Int) (m : Nat) : Prop := (0 ≤ n ∧ n < (N : Int)) ∧ m ≤ 64
instance (N : Nat) (n : Int) (m : Nat) : Decidable (wOk N n m) := by unfold wOk; infer_instance
def wE (N : Nat) (n : Int) (m : Nat) : Int := if 0 ≤ n ∧ n < (N : Int) then (if 64 < m then 3 else 0) else 8
theorem wE_ok {N : Nat} {n : Int} {m : Nat} : wE N n m = 0 ↔ wOk N n m := by
  unfold wE wOk
  by_cases h1 : 0 ≤ n ∧ n < (N : Int)
  · rw [if_pos h1]
    by_cases h2 : 64 < m
    · rw [if_pos h2]; constructor
      · intro h; cases h
      · rintro ⟨_, h⟩; omega
    · rw [if_neg h2]; exact ⟨fun _ => ⟨h1, by omega⟩, fun _ => rfl⟩
  · rw [if_neg h1]; constructor
    · intro h; cases h
    · rintro ⟨h, _⟩; exact absurd h h1
def wB (bs : List (List Int)) (n : Int) (l : List Int) : List (List Int) := if wOk bs.length n l.length then bs.set n.toNat l else bs
def wL (bs : List (List Int)) (ls : List Ws) (n : Int) (l : List Int) : List Ws := if wOk bs.length n l.length then ls ++ [⟨n, bs[n.toNat]?.getD []⟩] else ls
theorem wB_len (bs : List (List Int)) (n : Int) (l : List Int) : (wB bs n l).length = bs.length := by unfold wB; split <;> simp
set_option maxRecDepth 100000 in
theorem write_op (F : Nat → Prop) (D : Nat) (bs : List (List Int)) (ls : List Ws) (n : Int) (pa : Option Addr) (pn pc : Nat) (l : List Int) (w : World) (h : Dk F w D bs ls) (hl : HoldsB w pa pn pc l) (hne : ∀ b o, pa = some ⟨b, o, none⟩ → 0 < pn → ¬ F b) (hm : ls.length ≤ 1000000) :
    Calls Try.prog 10 #[.pointer (some ⟨D, 0, none⟩), .int .i64 n, .slice pa pn pc] w fun e w' => e = .returned (.int .i64 (wE bs.length n l.length)) ∧ (∃ F', Dk F' w' D (wB bs n l) (wL bs ls n l) ∧ (∀ q, F' q → F q ∨ w.heap.size ≤ q)) ∧ Onl F w w' := by
  have hp := hl.1
  by_cases h1 : 0 ≤ n ∧ n < (bs.length : Int)
  · obtain ⟨k, rfl⟩ : ∃ k : Nat, n = (k : Int) := ⟨n.toNat, by omega⟩
    have hk : k < bs.length := by omega
    by_cases h2 : 64 < pn
    · refine (write_long F D bs ls k pa pn pc w h hk h2).mono ?_
      rintro e w' ⟨rfl, rfl⟩
      have hn : ¬ wOk bs.length (k : Int) l.length := by unfold wOk; omega
      unfold wE wB wL
      rw [if_pos h1, if_pos (by omega), if_neg hn, if_neg hn]
      exact ⟨rfl, ⟨F, h, fun q hq => .inl hq⟩, Onl.refl _ _⟩
    · refine (write_in F D bs ls k pa pn pc l w h hk (by omega) hl hne hm).mono ?_
      rintro e w' ⟨rfl, hd, ho⟩
      have hn : wOk bs.length (k : Int) l.length := ⟨h1, by omega⟩
      unfold wE wB wL
      rw [if_pos h1, if_neg (by omega), if_pos hn, if_pos hn, Int.toNat_natCast, List.getElem?_eq_getElem hk]
      exact ⟨rfl, hd, ho⟩
  · refine (write_out F D bs ls n _ w h h1).mono ?_
    rintro e w' ⟨rfl, rfl⟩
    have hn : ¬ wOk bs.length n l.length := fun h => h1 h.1
    unfold wE wB wL
    rw [if_neg h1, if_neg hn, if_neg hn]
    exact ⟨rfl, ⟨F, h, fun q hq => .inl hq⟩, Onl.refl _ _⟩
end Go.Proofs.Ytpkifcoichjnbaa

namespace Go.Proofs.Ytpkifcoichjnbaa
open Go.RowKit Go.Deep Go.Maps
set_option linter.unusedVariables false
set_option linter.unusedSimpArgs false
theorem Dk.lt {F : Nat → Prop} {W : World} {D : Nat} {bs : List (List Int)} {ls : List Ws} (h : Dk F W D bs ls) : ∀ k, F k → k < W.heap.size := by obtain ⟨_, _, _, _, _, _, _, _, h⟩ := h; exact h
/-- A block that something is held in lies among what is there. -/
theorem holdsB_lt {w : World} {pa : Option Addr} {pn pc : Nat} {l : List Int} (h : HoldsB w pa pn pc l) {b o : Nat} (e : pa = some ⟨b, o, none⟩) (hp : 0 < pn) : b < w.heap.size := by
  obtain ⟨b', off, e', hc⟩ := h.2.2.2.2.2.2 hp
  rw [e] at e'
  cases e'
  exact cell_lt (hc 0 hp)
def Two (w W : World) (K : Nat → Prop) (Da : Nat) (ba : List (List Int)) (la : List Ws) (Db : Nat) (bb : List (List Int)) (lb : List Ws) : Prop :=
  ∃ Fa Fb : Nat → Prop, Dk Fa W Da ba la ∧ Dk Fb W Db bb lb ∧ (∀ q, Fa q → ¬ Fb q) ∧ (∀ q, Fa q → w.heap.size ≤ q) ∧ (∀ q, Fb q → w.heap.size ≤ q) ∧ (∀ q, K q → q < W.heap.size ∧ ¬ Fa q ∧ ¬ Fb q) ∧ Below w.heap.size w W
/-- No block besides. -/
def No (_ : Nat) : Prop := False
section
variable {w W W' : World} {K : Nat → Prop} {Da Db : Nat} {ba ba' bb : List (List Int)} {la la' lb : List Ws}
theorem Two.symm (h : Two w W K Da ba la Db bb lb) : Two w W K Db bb lb Da ba la := by
  obtain ⟨Fa, Fb, h1, h2, h3, h4, h5, h6, h7⟩ := h
  exact ⟨Fb, Fa, h2, h1, fun q hq h => h3 q h hq, h5, h4, fun q hq => ⟨(h6 q hq).1, (h6 q hq).2.2, (h6 q hq).2.1⟩, h7⟩
theorem Two.bel (h : Two w W K Da ba la Db bb lb) : Below w.heap.size w W := by obtain ⟨_, _, _, _, _, _, _, _, h⟩ := h; exact h
theorem Two.below (h : Two w W K Da ba la Db bb lb) (k : Below W.heap.size W W') : Two w W' K Da ba la Db bb lb := by
  obtain ⟨Fa, Fb, h1, h2, h3, h4, h5, h6, h7⟩ := h
  exact ⟨Fa, Fb, h1.below k, h2.below k, h3, h4, h5, fun q hq => ⟨Nat.lt_of_lt_of_le (h6 q hq).1 k.size, (h6 q hq).2⟩, h7.trans (k.mono h7.size)⟩
theorem Two.drop (h : Two w W K Da ba la Db bb lb) : Two w W No Da ba la Db bb lb := by
  obtain ⟨Fa, Fb, h1, h2, h3, h4, h5, h6, h7⟩ := h
  exact ⟨Fa, Fb, h1, h2, h3, h4, h5, fun q hq => hq.elim, h7⟩
theorem Two.fresh (h : Two w W K Da ba la Db bb lb) (o : Obj) : Two w (W.alloc o) (fun q => q = W.heap.size) Da ba la Db bb lb := by
  have k := (Below.refl W.heap.size W).alloc (Nat.le_refl _) o
  obtain ⟨Fa, Fb, h1, h2, h3, h4, h5, h6, h7⟩ := h
  exact ⟨Fa, Fb, h1.below k, h2.below k, h3, h4, h5, fun q hq => ⟨by subst hq; simp, fun hf => by have := h1.lt q hf; omega, fun hf => by have := h2.lt q hf; omega⟩, h7.trans (k.mono h7.size)⟩
theorem two_write (h : Two w W K Da ba la Db bb lb) (n : Int) {pa : Option Addr} {pn pc : Nat} {l : List Int} (hl : HoldsB w pa pn pc l) (hm : la.length ≤ 1000000) :
    Calls Try.prog 10 #[.pointer (some ⟨Da, 0, none⟩), .int .i64 n, .slice pa pn pc] W fun e w' => e = .returned (.int .i64 (wE ba.length n l.length)) ∧ Two w w' K Da (wB ba n l) (wL ba la n l) Db bb lb ∧ (∀ q, K q → w'.heap[q]? = W.heap[q]?) := by
  obtain ⟨Fa, Fb, h1, h2, h3, h4, h5, h6, h7⟩ := h
  refine (write_op Fa Da ba la n pa pn pc l W h1 (hl.below h7) (fun b o e hp hf => by have := holdsB_lt hl e hp; have := h4 b hf; omega) hm).mono ?_
  rintro e w' ⟨rfl, ⟨F', hd, hs⟩, ho⟩
  refine ⟨rfl, ⟨F', Fb, hd, h2.onl ho (fun q hq h => h3 q h hq), fun q hq hb => (hs q hq).elim (fun h => h3 q h hb) (fun h => by have := h2.lt q hb; omega), fun q hq => (hs q hq).elim (h4 q) (fun h => by have := h7.size; omega), h5, fun q hq => ⟨Nat.lt_of_lt_of_le (h6 q hq).1 ho.size, fun hf => (hs q hf).elim (h6 q hq).2.1 (fun h => by have := (h6 q hq).1; omega), (h6 q hq).2.2⟩, ho.below h7 h4⟩, fun q hq => ho.block q (h6 q hq).1 (h6 q hq).2.1⟩
theorem two_sync (h : Two w W K Da ba la Db bb lb) :
    Calls Try.prog 12 #[.pointer (some ⟨Da, 0, none⟩)] W fun e w' => e = .returned (.int .i64 0) ∧ Two w w' No Da ba [] Db bb lb := by
  obtain ⟨Fa, Fb, h1, h2, h3, h4, h5, h6, h7⟩ := h
  refine (sync_any Fa Da ba la W h1).mono ?_
  rintro e w' ⟨rfl, hd, ho⟩
  exact ⟨rfl, Fa, Fb, hd, h2.onl ho (fun q hq h => h3 q h hq), h3, h4, h5, fun q hq => hq.elim, ho.below h7 h4⟩
theorem two_crash (h : Two w W K Da ba la Db bb lb) (kp : Int) (h0 : 0 ≤ kp) (h1' : kp ≤ 9223372036854775807) (hx : ∀ x ∈ la, 0 ≤ x.n ∧ x.n < ba.length) (hm : la.length ≤ 1000000) :
    Calls Try.prog 14 #[.pointer (some ⟨Da, 0, none⟩), .int .i64 kp] W fun e w' => e = .returned (.int .i64 0) ∧ Two w w' No Da (und ba (la.drop kp.toNat)) [] Db bb lb := by
  obtain ⟨Fa, Fb, h1, h2, h3, h4, h5, h6, h7⟩ := h
  refine (crash_any Fa Da ba la kp W h1 h0 h1' hx hm).mono ?_
  rintro e w' ⟨rfl, hd, ho⟩
  exact ⟨rfl, Fa, Fb, hd, h2.onl ho (fun q hq h => h3 q h hq), h3, h4, h5, fun q hq => hq.elim, ho.below h7 h4⟩
theorem two_loose (h : Two w W K Da ba la Db bb lb) :
    Calls Try.prog 19 #[.pointer (some ⟨Da, 0, none⟩)] W fun e w' => e = .returned (.int .i64 (la.length : Int)) ∧ W = w' := by
  obtain ⟨Fa, Fb, h1, _⟩ := h
  exact loose_any Fa Da ba la W h1
theorem two_read (h : Two w W K Da ba la Db bb lb) {k : Nat} (hk : k < ba.length) :
    Calls Try.prog 16 #[.pointer (some ⟨Da, 0, none⟩), .int .i64 (k : Int)] W fun e w' => ∃ q, e = .returned (.tuple #[.slice (some ⟨q, 0, none⟩) 64 64, .int .i64 0]) ∧ W.heap.size ≤ q ∧ Blk w' q 59 (bk ba[k]).toArray ∧ Below W.heap.size W w' := by
  obtain ⟨Fa, Fb, h1, _⟩ := h
  exact read_in Fa Da ba la k W h1 hk
end
theorem wL_ok {bs : List (List Int)} {ls : List Ws} {n : Int} {l : List Int} (h : ∀ x ∈ ls, 0 ≤ x.n ∧ x.n < bs.length) : ∀ x ∈ wL bs ls n l, 0 ≤ x.n ∧ x.n < (wB bs n l).length := by
  intro x hx
  rw [wB_len]
  unfold wL at hx
  split at hx
  · rename_i hw
    rcases List.mem_append.1 hx with hx | hx
    · exact h x hx
    · simp only [List.mem_singleton] at hx
      subst hx
      exact hw.1
  · exact h x hx
theorem wL_le (bs : List (List Int)) (ls : List Ws) (n : Int) (l : List Int) : (wL bs ls n l).length ≤ ls.length + 1 := by unfold wL; split <;> simp
theorem wB_BB {bs : List (List Int)} {n : Int} {l : List Int} (h : ∀ b ∈ bs, BB b) (hl : BB l) : ∀ b ∈ wB bs n l, BB b := by
  intro b hb
  unfold wB at hb
  split at hb
  · rcases List.mem_or_eq_of_mem_set hb with hb | rfl
    · exact h b hb
    · exact hl
  · exact h b hb
theorem und_app (bs : List (List Int)) (X : List Ws) (x : Ws) : und bs (X ++ [x]) = und (bs.set x.n.toNat x.b) X := by unfold und; rw [List.foldr_append]; rfl
theorem step_lt {ba bb : List (List Int)} {la : List Ws} {n : Int} {l : List Int} {K : Nat} (ha : ba.length = bb.length) (hk : la.length < K) (hi : und ba (la.drop K) = bb) : und (wB ba n l) ((wL ba la n l).drop K) = wB bb n l := by
  rw [List.drop_of_length_le (by omega)] at hi
  have hi' : ba = bb := hi
  subst hi'
  rw [List.drop_of_length_le (by have := wL_le ba la n l; omega)]
  rfl
theorem step_ge {ba bb : List (List Int)} {la : List Ws} {n : Int} {l : List Int} {K : Nat} (hk : K ≤ la.length) (hi : und ba (la.drop K) = bb) : und (wB ba n l) ((wL ba la n l).drop K) = bb := by
  unfold wB wL
  by_cases hw : wOk ba.length n l.length
  · rw [if_pos hw, if_pos hw, List.drop_append_of_le_length hk, und_app]
    have hn : n.toNat < ba.length := by have := hw.1; omega
    have e : ((ba.set n.toNat l).set n.toNat (ba[n.toNat]?.getD [])) = ba := by
      rw [List.set_set, List.getElem?_eq_getElem hn, Option.getD_some, List.set_getElem_self]
    show und ((ba.set n.toNat l).set n.toNat (ba[n.toNat]?.getD [])) _ = _
    rw [e]
    exact hi
  · rw [if_neg hw, if_neg hw]; exact hi
theorem wL_yes {bs : List (List Int)} {ls : List Ws} {n : Int} {l : List Int} (h : wE bs.length n l.length = 0) : (wL bs ls n l).length = ls.length + 1 := by
  unfold wL; rw [if_pos (wE_ok.1 h)]; simp
theorem w_no {bs : List (List Int)} {ls : List Ws} {n : Int} {l : List Int} (h : ¬ wE bs.length n l.length = 0) : wB bs n l = bs ∧ wL bs ls n l = ls := by
  unfold wB wL
  have : ¬ wOk bs.length n l.length := fun x => h (wE_ok.2 x)
  rw [if_neg this, if_neg this]
  exact ⟨rfl, rfl⟩
end Go.Proofs.Ytpkifcoichjnbaa
