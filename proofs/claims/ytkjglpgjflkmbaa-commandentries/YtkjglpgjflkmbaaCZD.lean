/-
  Contracts of furlongref10: a task, an entry with memory of its own.
-/
import Derived.Test.YtkjglpgjflkmbaaCZA
import Derived.Test.YtkjglpgjflkmbaaCK
namespace Go.Proofs.Ytkjglpgjflkmbaa
open Go.RowKit Go.Deep Go.Maps
set_option linter.unusedVariables false
set_option linter.unusedSimpArgs false

theorem Blk.put {W : World} {Q t i : Nat} {cs : Array Value} (h : Blk W Q t cs) (v : Value) : Blk (W.setCell ⟨Q, i, none⟩ v) Q t (cs.setIfInBounds i v) := heap_setCell_same W Q i cs t v h
theorem Blk.boxD {W : World} {Q t : Nat} {cs : Array Value} (h : Blk W Q t cs) : Box W Q cs := fun i x e => by
  have h' : W.heap[Q]? = some (.cells cs t (0, 0)) := h
  simp [World.cell?, h', e]
theorem Blk.cellAt {W : World} {Q t : Nat} {cs : Array Value} (h : Blk W Q t cs) (i : Nat) (v : Value) (e : cs[i]? = some v) : W.cell? ⟨Q, i, none⟩ = some v := by
  have h' : W.heap[Q]? = some (.cells cs t (0, 0)) := h
  simp [World.cell?, h', e]
theorem Blk.froz {W : World} {Q t i : Nat} {cs : Array Value} (h : Blk W Q t cs) : W.frozen? ⟨Q, i, none⟩ = false := frozen_of_row W Q i cs t h
theorem Blk.there {W : World} {Q t : Nat} {cs : Array Value} (h : Blk W Q t cs) (o n : Nat) (hn : o + n ≤ cs.size) : W.there Q o n := fun j hj => by
  refine ⟨?_, h.froz⟩
  rw [h.cellAt (o + j) (cs[o + j]'(by omega)) (Array.getElem?_eq_getElem _)]
  rfl
/-- Values put into an array's places from o on. -/
def putL (cs : Array Value) : Nat → List Value → Array Value
  | _, [] => cs
  | o, v :: r => putL (cs.setIfInBounds o v) (o + 1) r
theorem Blk.cells {Q t : Nat} : ∀ (vs : List Value) (o : Nat) {W : World} {cs : Array Value} (h : Blk W Q t cs), Blk (W.setCells Q o vs) Q t (putL cs o vs)
  | [], _, _, _, h => h
  | v :: r, o, W, cs, h => by
    rw [World.setCells]
    exact Blk.cells r (o + 1) (h.put v)
theorem Blk.cellsO {Q t : Nat} : ∀ (vs : List Value) (o q : Nat) {W : World} {cs : Array Value} (h : Blk W Q t cs) (hq : Q ≠ q), Blk (W.setCells q o vs) Q t cs
  | [], _, _, _, _, h, _ => h
  | v :: r, o, q, W, cs, h, hq => by
    rw [World.setCells]
    exact Blk.cellsO r (o + 1) q (h.cellO ⟨q, o, none⟩ v hq) hq
theorem setCells_below {n : Nat} {w : World} : ∀ (vs : List Value) (o q : Nat) {W : World}, Below n w W → n ≤ q → Below n w (W.setCells q o vs)
  | [], _, _, _, h, _ => h
  | v :: r, o, q, W, h, hq => by
    rw [World.setCells]
    exact setCells_below r (o + 1) q (h.setCell (p := ⟨q, o, none⟩) hq v) hq
theorem OwnE.cellsO {α : Type} {e : TypeId} {k : Nat} {enc : α → List Value} {base n : Nat} {l : List α} {v : Value} : ∀ (vs : List Value) (o q : Nat) {w : World}, OwnE e k enc base w v n l → q < base → OwnE e k enc base (w.setCells q o vs) v n l
  | [], _, _, _, h, _ => h
  | u :: r, o, q, w, h, hq => by
    rw [World.setCells]
    exact OwnE.cellsO r (o + 1) q (h.cellO ⟨q, o, none⟩ u hq) hq
theorem encN_one : ∀ x, ∀ u ∈ encN x, u.oneCell' = true := by intro x u hu; simp [encN] at hu; subst hu; rfl

set_option maxRecDepth 100000 in
set_option maxHeartbeats 8000000 in
theorem ttask_any (t1 t2 c m wk st : Int) (ta : Option Addr) (tn tc : Nat) (tk : List Int) (w : World) (h : HoldsN w ta tn tc tk) (hm : tn * 8 ≤ 140737488355328) :
    Calls Try.prog 30 #[.agg #[.int .i64 t1, .int .i64 t2, .int .i64 c, .int .i64 m, .int .i64 wk, .slice ta tn tc, .int .i64 st]] w fun e w' => ∃ v, e = .returned (.agg #[.int .i64 t1, .int .i64 t2, .int .i64 c, .int .i64 m, .int .i64 wk, v, .int .i64 st]) ∧ OwnN w.heap.size w' v tn tk ∧ Below w.heap.size w w' := by
  go_enter Try.func30, Try.ntmps30
  go_upto_region 1 with fail
  have B0 := hid (((Below.refl w.heap.size w).alloc (Nat.le_refl _) (.cells #[.int .i64 t1, .int .i64 t2, .int .i64 c, .int .i64 m, .int .i64 wk, .slice ta tn tc, .int .i64 st] 30)).alloc (by simp) (.cells #[.int .i64 0, .int .i64 0, .int .i64 0, .int .i64 0, .int .i64 0, .slice none 0 0, .int .i64 0] 30))
  have X1 := hid ((Blk.alloc w #[.int .i64 t1, .int .i64 t2, .int .i64 c, .int .i64 m, .int .i64 wk, .slice ta tn tc, .int .i64 st] (30)).below ((Below.refl _ _).alloc (Nat.le_refl _) (.cells #[.int .i64 0, .int .i64 0, .int .i64 0, .int .i64 0, .int .i64 0, .slice none 0 0, .int .i64 0] 30)))
  have X2 := hid (Blk.alloc (w.alloc (.cells #[.int .i64 t1, .int .i64 t2, .int .i64 c, .int .i64 m, .int .i64 wk, .slice ta tn tc, .int .i64 st] 30)) #[.int .i64 0, .int .i64 0, .int .i64 0, .int .i64 0, .int .i64 0, .slice none 0 0, .int .i64 0] (30))
  have zs : (w.alloc (.cells #[.int .i64 t1, .int .i64 t2, .int .i64 c, .int .i64 m, .int .i64 wk, .slice ta tn tc, .int .i64 st] 30)).heap.size = w.heap.size + 1 := by simp
  have zt : ((w.alloc (.cells #[.int .i64 t1, .int .i64 t2, .int .i64 c, .int .i64 m, .int .i64 wk, .slice ta tn tc, .int .i64 st] 30)).alloc (.cells #[.int .i64 0, .int .i64 0, .int .i64 0, .int .i64 0, .int .i64 0, .slice none 0 0, .int .i64 0] 30)).heap.size = w.heap.size + 2 := by simp
  rw [zs] at X2
  have HN := hid (h.below B0.out)
  clear h zs
  generalize ((w.alloc (.cells #[.int .i64 t1, .int .i64 t2, .int .i64 c, .int .i64 m, .int .i64 wk, .slice ta tn tc, .int .i64 st] 30)).alloc (.cells #[.int .i64 0, .int .i64 0, .int .i64 0, .int .i64 0, .int .i64 0, .slice none 0 0, .int .i64 0] 30)) = W0 at *
  have c5 := X1.out.cellAt 5 (.slice ta tn tc) rfl
  have b1 := (Below.refl W0.heap.size W0).alloc (Nat.le_refl _) (.cells #[] 3)
  have d5 := keepc b1 c5
  have O0 := hid (OwnE.lit 3 1 encN W0)
  have H1 := hid (HN.out.below b1)
  have Z1 := hid (X1.out.below b1)
  have Z2 := hid (X2.out.below b1)
  have B1 := hid (B0.out.alloc B0.out.size (.cells #[] 3))
  have LS : Hid (w.heap.size + 2 ≤ (W0.alloc (.cells #[] 3)).heap.size) := by unfold Hid; simp; omega
  clear c5 b1 X1 X2 B0 HN
  have Z0 := hid zt
  clear zt
  go_wp2_with (at_builtin; refine cat_ownE 28 3 (.int .i64 0) 8 encN_len encN_one Try.underlying28 infoN rfl (by decide) _ rfl (.tmp 3) (.tmp 5) rfl W0.heap.size 0 (.slice (some ⟨W0.heap.size, 0, none⟩) 0 0) [] rfl O0.out (by simp) ta tn tc tk rfl H1.out (by omega) (by omega) ?_)
  intro v W1 h1 h2 h3
  have O1 : Hid (OwnN W0.heap.size W1 v tn tk) := by unfold Hid; simpa using h1
  have hs := h3.size
  replace Z1 := hid (show Blk W1 w.heap.size _ _ from (h3.block w.heap.size Z1.out.lt (by simp [Value.ownBlock]; have := Z0.out; omega)).trans Z1.out)
  replace Z2 := hid (show Blk W1 (w.heap.size + 1) _ _ from (h3.block (w.heap.size + 1) Z2.out.lt (by simp [Value.ownBlock]; have := Z0.out; omega)).trans Z2.out)
  replace B1 := hid (B1.out.grown h3 (by have := B1.out.size; omega) (fun g e => by simp [Value.ownBlock] at e; have := Z0.out; omega))
  clear h1 h2 h3 H1 O0 d5
  have y5 := Z1.out.cellAt 5 (.slice ta tn tc) rfl
  have f5 : W1.frozen? ⟨w.heap.size, 5, none⟩ = false := Z1.out.froz
  obtain ⟨va, vc, rfl⟩ := O1.out.form
  go_upto_region 2 with fail
  replace Z1 := hid (Z1.out.put (i := 5) (.slice va tn vc))
  replace Z2 := hid (Z2.out.cellO ⟨w.heap.size, 5, none⟩ (.slice va tn vc) (by show w.heap.size + 1 ≠ w.heap.size; omega))
  replace B1 := hid (B1.out.setCell (p := ⟨w.heap.size, 5, none⟩) (Nat.le_refl _) (.slice va tn vc))
  replace O1 := hid (O1.out.cellO ⟨w.heap.size, 5, none⟩ (.slice va tn vc) (by show w.heap.size < W0.heap.size; have := Z0.out; omega))
  clear y5 f5
  generalize W1.setCell ⟨w.heap.size, 5, none⟩ (.slice va tn vc) = W2 at *
  have LD := Z1.out.loadAt Try.underlying30 rfl sizeTask
  have BH := Z2.out
  unfold Blk at BH
  go_wp2_with (first | refine wpList_load_at 30 rfl (.tmp 1) rfl _ _ rfl _ LD ?_ | refine wpList_store_row rfl 30 (.tmp 2) (.tmp 8) rfl (w.heap.size + 1) #[.int .i64 t1, .int .i64 t2, .int .i64 c, .int .i64 m, .int .i64 wk, .slice va tn vc, .int .i64 st] rfl rfl 30 _ BH sizeTask rfl (by simp [Value.oneCell']) ?_)
  refine bodyPost_ret (results_cell rfl rfl ((Z2.out.row #[.int .i64 t1, .int .i64 t2, .int .i64 c, .int .i64 m, .int .i64 wk, .slice va tn vc, .int .i64 st]).loadVar Try.underlying30 rfl sizeTask)) rfl ?_
  exact ⟨_, rfl, (O1.out.row (by have := Z0.out; omega) _).weaken (by have := Z0.out; omega), setRow_below B1.out (by omega)⟩

set_option maxRecDepth 100000 in
set_option maxHeartbeats 8000000 in
theorem tentry_any (gp cl sq kd ci ir bt si q1 q2 q3 q4 q5 q6 q7 n1 n2 n3 n4 n5 t1 t2 c m wk st : Int) (ta : Option Addr) (tn tc : Nat) (tk : List Int) (w : World) (h : HoldsN w ta tn tc tk) (hm : tn * 8 ≤ 140737488355328) :
    Calls Try.prog 11 #[.agg #[.int .i64 gp, .int .i64 cl, .int .i64 sq, .int .i64 kd, .int .i64 ci, .int .i64 ir, .int .i64 bt, .int .i64 si, .int .i64 q1, .int .i64 q2, .int .i64 q3, .int .i64 q4, .int .i64 q5, .int .i64 q6, .int .i64 q7, .int .i64 n1, .int .i64 n2, .int .i64 n3, .int .i64 n4, .int .i64 n5, .int .i64 t1, .int .i64 t2, .int .i64 c, .int .i64 m, .int .i64 wk, .slice ta tn tc, .int .i64 st]] w fun e w' => ∃ v, e = .returned (.agg #[.int .i64 gp, .int .i64 cl, .int .i64 sq, .int .i64 kd, .int .i64 ci, .int .i64 ir, .int .i64 bt, .int .i64 si, .int .i64 q1, .int .i64 q2, .int .i64 q3, .int .i64 q4, .int .i64 q5, .int .i64 q6, .int .i64 q7, .int .i64 n1, .int .i64 n2, .int .i64 n3, .int .i64 n4, .int .i64 n5, .int .i64 t1, .int .i64 t2, .int .i64 c, .int .i64 m, .int .i64 wk, v, .int .i64 st]) ∧ OwnN w.heap.size w' v tn tk ∧ Below w.heap.size w w' := by
  go_enter Try.func11, Try.ntmps11
  go_upto_region 1 with fail
  have B0 := hid (((Below.refl w.heap.size w).alloc (Nat.le_refl _) (.cells #[.int .i64 gp, .int .i64 cl, .int .i64 sq, .int .i64 kd, .int .i64 ci, .int .i64 ir, .int .i64 bt, .int .i64 si, .int .i64 q1, .int .i64 q2, .int .i64 q3, .int .i64 q4, .int .i64 q5, .int .i64 q6, .int .i64 q7, .int .i64 n1, .int .i64 n2, .int .i64 n3, .int .i64 n4, .int .i64 n5, .int .i64 t1, .int .i64 t2, .int .i64 c, .int .i64 m, .int .i64 wk, .slice ta tn tc, .int .i64 st] 34)).alloc (by simp) (.cells #[.int .i64 0, .int .i64 0, .int .i64 0, .int .i64 0, .int .i64 0, .int .i64 0, .int .i64 0, .int .i64 0, .int .i64 0, .int .i64 0, .int .i64 0, .int .i64 0, .int .i64 0, .int .i64 0, .int .i64 0, .int .i64 0, .int .i64 0, .int .i64 0, .int .i64 0, .int .i64 0, .int .i64 0, .int .i64 0, .int .i64 0, .int .i64 0, .int .i64 0, .slice none 0 0, .int .i64 0] 34))
  have X1 := hid ((Blk.alloc w #[.int .i64 gp, .int .i64 cl, .int .i64 sq, .int .i64 kd, .int .i64 ci, .int .i64 ir, .int .i64 bt, .int .i64 si, .int .i64 q1, .int .i64 q2, .int .i64 q3, .int .i64 q4, .int .i64 q5, .int .i64 q6, .int .i64 q7, .int .i64 n1, .int .i64 n2, .int .i64 n3, .int .i64 n4, .int .i64 n5, .int .i64 t1, .int .i64 t2, .int .i64 c, .int .i64 m, .int .i64 wk, .slice ta tn tc, .int .i64 st] (34)).below ((Below.refl _ _).alloc (Nat.le_refl _) (.cells #[.int .i64 0, .int .i64 0, .int .i64 0, .int .i64 0, .int .i64 0, .int .i64 0, .int .i64 0, .int .i64 0, .int .i64 0, .int .i64 0, .int .i64 0, .int .i64 0, .int .i64 0, .int .i64 0, .int .i64 0, .int .i64 0, .int .i64 0, .int .i64 0, .int .i64 0, .int .i64 0, .int .i64 0, .int .i64 0, .int .i64 0, .int .i64 0, .int .i64 0, .slice none 0 0, .int .i64 0] 34)))
  have X2 := hid (Blk.alloc (w.alloc (.cells #[.int .i64 gp, .int .i64 cl, .int .i64 sq, .int .i64 kd, .int .i64 ci, .int .i64 ir, .int .i64 bt, .int .i64 si, .int .i64 q1, .int .i64 q2, .int .i64 q3, .int .i64 q4, .int .i64 q5, .int .i64 q6, .int .i64 q7, .int .i64 n1, .int .i64 n2, .int .i64 n3, .int .i64 n4, .int .i64 n5, .int .i64 t1, .int .i64 t2, .int .i64 c, .int .i64 m, .int .i64 wk, .slice ta tn tc, .int .i64 st] 34)) #[.int .i64 0, .int .i64 0, .int .i64 0, .int .i64 0, .int .i64 0, .int .i64 0, .int .i64 0, .int .i64 0, .int .i64 0, .int .i64 0, .int .i64 0, .int .i64 0, .int .i64 0, .int .i64 0, .int .i64 0, .int .i64 0, .int .i64 0, .int .i64 0, .int .i64 0, .int .i64 0, .int .i64 0, .int .i64 0, .int .i64 0, .int .i64 0, .int .i64 0, .slice none 0 0, .int .i64 0] (34))
  have zs : (w.alloc (.cells #[.int .i64 gp, .int .i64 cl, .int .i64 sq, .int .i64 kd, .int .i64 ci, .int .i64 ir, .int .i64 bt, .int .i64 si, .int .i64 q1, .int .i64 q2, .int .i64 q3, .int .i64 q4, .int .i64 q5, .int .i64 q6, .int .i64 q7, .int .i64 n1, .int .i64 n2, .int .i64 n3, .int .i64 n4, .int .i64 n5, .int .i64 t1, .int .i64 t2, .int .i64 c, .int .i64 m, .int .i64 wk, .slice ta tn tc, .int .i64 st] 34)).heap.size = w.heap.size + 1 := by simp
  have zt : ((w.alloc (.cells #[.int .i64 gp, .int .i64 cl, .int .i64 sq, .int .i64 kd, .int .i64 ci, .int .i64 ir, .int .i64 bt, .int .i64 si, .int .i64 q1, .int .i64 q2, .int .i64 q3, .int .i64 q4, .int .i64 q5, .int .i64 q6, .int .i64 q7, .int .i64 n1, .int .i64 n2, .int .i64 n3, .int .i64 n4, .int .i64 n5, .int .i64 t1, .int .i64 t2, .int .i64 c, .int .i64 m, .int .i64 wk, .slice ta tn tc, .int .i64 st] 34)).alloc (.cells #[.int .i64 0, .int .i64 0, .int .i64 0, .int .i64 0, .int .i64 0, .int .i64 0, .int .i64 0, .int .i64 0, .int .i64 0, .int .i64 0, .int .i64 0, .int .i64 0, .int .i64 0, .int .i64 0, .int .i64 0, .int .i64 0, .int .i64 0, .int .i64 0, .int .i64 0, .int .i64 0, .int .i64 0, .int .i64 0, .int .i64 0, .int .i64 0, .int .i64 0, .slice none 0 0, .int .i64 0] 34)).heap.size = w.heap.size + 2 := by simp
  rw [zs] at X2
  have HN := h.below B0.out
  clear h zs
  generalize ((w.alloc (.cells #[.int .i64 gp, .int .i64 cl, .int .i64 sq, .int .i64 kd, .int .i64 ci, .int .i64 ir, .int .i64 bt, .int .i64 si, .int .i64 q1, .int .i64 q2, .int .i64 q3, .int .i64 q4, .int .i64 q5, .int .i64 q6, .int .i64 q7, .int .i64 n1, .int .i64 n2, .int .i64 n3, .int .i64 n4, .int .i64 n5, .int .i64 t1, .int .i64 t2, .int .i64 c, .int .i64 m, .int .i64 wk, .slice ta tn tc, .int .i64 st] 34)).alloc (.cells #[.int .i64 0, .int .i64 0, .int .i64 0, .int .i64 0, .int .i64 0, .int .i64 0, .int .i64 0, .int .i64 0, .int .i64 0, .int .i64 0, .int .i64 0, .int .i64 0, .int .i64 0, .int .i64 0, .int .i64 0, .int .i64 0, .int .i64 0, .int .i64 0, .int .i64 0, .int .i64 0, .int .i64 0, .int .i64 0, .int .i64 0, .int .i64 0, .int .i64 0, .slice none 0 0, .int .i64 0] 34)) = W0 at *
  have C := hid (ttask_any t1 t2 c m wk st ta tn tc tk W0 HN hm)
  have LD := run_loadAt_mid (P := Try.prog) W0 w.heap.size 20 30 (#[.int .i64 t1, .int .i64 t2, .int .i64 c, .int .i64 m, .int .i64 wk, .slice ta tn tc, .int .i64 st] : Array Value).toList _ (Box.mid X1.out.boxD 20 7 _ rfl) Try.underlying30 rfl sizeTask
  clear HN
  have Z0 := hid zt
  clear zt
  go_wp2_with (refine wpList_load_at 30 rfl (.tmp 4) rfl _ _ rfl _ LD ?_)
  clear LD
  with_reducible refine C.out.mono ?_
  rintro e W1 ⟨v, rfl, h1, b1⟩
  have O1 := hid h1
  replace X1 := hid (X1.out.below b1)
  replace X2 := hid (X2.out.below b1)
  have B1 := hid (B0.out.trans (b1.mono B0.out.size))
  clear C h1 b1 B0
  obtain ⟨va, vc, rfl⟩ := O1.out.form
  have TH := X1.out.there 20 7 (Nat.le_refl 27)
  go_upto_region 2 with (refine wpList_store_mid rfl 30 (.tmp 8) (.tmp 6) rfl w.heap.size 20 #[.int .i64 t1, .int .i64 t2, .int .i64 c, .int .i64 m, .int .i64 wk, .slice va tn vc, .int .i64 st] rfl rfl TH sizeTask (by simp [Value.oneCell']) ?_)
  clear TH
  replace X1 := hid (X1.out.cells (#[.int .i64 t1, .int .i64 t2, .int .i64 c, .int .i64 m, .int .i64 wk, .slice va tn vc, .int .i64 st] : Array Value).toList 20)
  replace X2 := hid (X2.out.cellsO (#[.int .i64 t1, .int .i64 t2, .int .i64 c, .int .i64 m, .int .i64 wk, .slice va tn vc, .int .i64 st] : Array Value).toList 20 w.heap.size (by omega))
  replace B1 := hid (setCells_below (#[.int .i64 t1, .int .i64 t2, .int .i64 c, .int .i64 m, .int .i64 wk, .slice va tn vc, .int .i64 st] : Array Value).toList 20 w.heap.size B1.out (Nat.le_refl _))
  replace O1 := hid (O1.out.cellsO (#[.int .i64 t1, .int .i64 t2, .int .i64 c, .int .i64 m, .int .i64 wk, .slice va tn vc, .int .i64 st] : Array Value).toList 20 w.heap.size (by have := Z0.out; omega))
  generalize W1.setCells w.heap.size 20 (#[.int .i64 t1, .int .i64 t2, .int .i64 c, .int .i64 m, .int .i64 wk, .slice va tn vc, .int .i64 st] : Array Value).toList = W2 at *
  have X1' : Blk W2 w.heap.size 34 #[.int .i64 gp, .int .i64 cl, .int .i64 sq, .int .i64 kd, .int .i64 ci, .int .i64 ir, .int .i64 bt, .int .i64 si, .int .i64 q1, .int .i64 q2, .int .i64 q3, .int .i64 q4, .int .i64 q5, .int .i64 q6, .int .i64 q7, .int .i64 n1, .int .i64 n2, .int .i64 n3, .int .i64 n4, .int .i64 n5, .int .i64 t1, .int .i64 t2, .int .i64 c, .int .i64 m, .int .i64 wk, .slice va tn vc, .int .i64 st] := X1.out
  have LD := X1'.loadAt Try.underlying34 rfl sizeEnt
  have BH := X2.out
  unfold Blk at BH
  go_wp2_with (first | refine wpList_load_at 34 rfl (.tmp 1) rfl _ _ rfl _ LD ?_ | refine wpList_store_row rfl 34 (.tmp 2) (.tmp 9) rfl (w.heap.size + 1) #[.int .i64 gp, .int .i64 cl, .int .i64 sq, .int .i64 kd, .int .i64 ci, .int .i64 ir, .int .i64 bt, .int .i64 si, .int .i64 q1, .int .i64 q2, .int .i64 q3, .int .i64 q4, .int .i64 q5, .int .i64 q6, .int .i64 q7, .int .i64 n1, .int .i64 n2, .int .i64 n3, .int .i64 n4, .int .i64 n5, .int .i64 t1, .int .i64 t2, .int .i64 c, .int .i64 m, .int .i64 wk, .slice va tn vc, .int .i64 st] rfl rfl 34 _ BH sizeEnt rfl (by simp [Value.oneCell']) ?_)
  refine bodyPost_ret (results_cell rfl rfl ((X2.out.row #[.int .i64 gp, .int .i64 cl, .int .i64 sq, .int .i64 kd, .int .i64 ci, .int .i64 ir, .int .i64 bt, .int .i64 si, .int .i64 q1, .int .i64 q2, .int .i64 q3, .int .i64 q4, .int .i64 q5, .int .i64 q6, .int .i64 q7, .int .i64 n1, .int .i64 n2, .int .i64 n3, .int .i64 n4, .int .i64 n5, .int .i64 t1, .int .i64 t2, .int .i64 c, .int .i64 m, .int .i64 wk, .slice va tn vc, .int .i64 st]).loadVar Try.underlying34 rfl sizeEnt)) rfl ?_
  exact ⟨_, rfl, (O1.out.row (by have := Z0.out; omega) _).weaken (by have := Z0.out; omega), setRow_below B1.out (by omega)⟩
end Go.Proofs.Ytkjglpgjflkmbaa
