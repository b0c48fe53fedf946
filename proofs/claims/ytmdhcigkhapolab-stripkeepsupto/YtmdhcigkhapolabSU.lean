/-
  Rows of bytes that a call writes into: what stays.
-/
import Derived.Test.YtmdhcigkhapolabST
namespace Go.Proofs.Ytmdhcigkhapolab
open Go.RowKit Go.Deep
set_option linter.unusedVariables false

/-- Only block g may have turned. -/
structure Only (g : Nat) (w w' : World) : Prop where
  os : w'.os = w.os
  tape : w'.tape = w.tape
  output : w'.output = w.output
  size : w'.heap.size = w.heap.size
  block : ∀ k, k ≠ g → w'.heap[k]? = w.heap[k]?
theorem Only.refl (g : Nat) (w : World) : Only g w w := ⟨rfl, rfl, rfl, rfl, fun _ _ => rfl⟩
theorem Only.set (g j : Nat) (w : World) (v : Value) : Only g w (w.setCell ⟨g, j, none⟩ v) := ⟨rfl, rfl, rfl, by simp, fun k hk => Below.heap_setCell w ⟨g, j, none⟩ v k hk⟩
theorem Only.below {g B : Nat} {w w' : World} (h : Only g w w') (hB : B ≤ g) : Below B w w' := ⟨h.os, h.tape, h.output, by rw [h.size]; exact Nat.le_refl _, fun k hk => h.block k (by omega)⟩
theorem Own.only {base g : Nat} {w w' : World} {v : Value} {n : Nat} {l : List Int} (h : Own base w v n l) (ho : Only g w w') (hg : g < base) : Own base w' v n l := by
  obtain ⟨⟨h1, h2⟩, h3⟩ := h
  refine ⟨⟨h1, ?_⟩, h3⟩
  rcases h2 with h2 | ⟨g', cap, cur, hv, hg', hh, r⟩
  · exact .inl h2
  · exact .inr ⟨g', cap, cur, hv, hg', by rw [ho.block g' (by omega)]; exact hh, r⟩
theorem Row.only {base g g' : Nat} {w w' : World} {n cap : Nat} {l : List Int} (h : Row base w g' n cap l) (ho : Only g w w') (hg : g' ≠ g) : Row base w' g' n cap l := by
  obtain ⟨⟨h1, h2⟩, h3⟩ := h
  refine ⟨⟨h1, ?_⟩, h3⟩
  rcases h2 with h2 | ⟨g2, cap, cur, hv, hg', hh, r⟩
  · exact .inl h2
  · have e : g' = g2 := by simp at hv; exact hv.1
    exact .inr ⟨g2, cap, cur, hv, hg', by rw [ho.block g2 (by omega)]; exact hh, r⟩
theorem Own.lt' {base : Nat} {w : World} {g n cap : Nat} {l : List Int} (h : Own base w (.slice (some ⟨g, 0, none⟩) n cap) n l) : base ≤ g ∧ g < w.heap.size := h.1.lt g rfl

/-- What is held while rows are written. -/
structure Bun (w w3 w4 : World) (N gv nv cv : Nat) (Lv : List Int) (wr : World) : Prop where
  q : Below w.heap.size w wr
  bin : Below w3.heap.size w3 wr
  bq : Below w4.heap.size w4 wr
  rv : Row N wr gv nv cv Lv
theorem Bun.below {w w3 w4 wr w' : World} {N gv nv cv : Nat} {Lv : List Int} (h : Bun w w3 w4 N gv nv cv Lv wr) (hb : Below wr.heap.size wr w') : Bun w w3 w4 N gv nv cv Lv w' :=
  ⟨h.q.trans (hb.mono h.q.size), h.bin.trans (hb.mono h.bin.size), h.bq.trans (hb.mono h.bq.size), h.rv.below hb⟩
theorem Bun.only {w w3 w4 wr w' : World} {N gv nv cv g : Nat} {Lv : List Int} (h : Bun w w3 w4 N gv nv cv Lv wr) (ho : Only g wr w') (h0 : w.heap.size ≤ g) (h1 : w3.heap.size ≤ g) (h2 : w4.heap.size ≤ g) (hn : gv ≠ g) : Bun w w3 w4 N gv nv cv Lv w' :=
  ⟨h.q.trans (ho.below h0), h.bin.trans (ho.below h1), h.bq.trans (ho.below h2), h.rv.only ho hn⟩

theorem md_gd (p : List Int) (hm : p.length ≤ 60000) : md (gd p) = (p, -1, 0) := by
  unfold md
  rw [gd_len, if_neg (by omega), if_neg (by omega), Nat.add_sub_cancel]
  exact mdM_gd p
theorem rt_pre (l p : List Int) (m : Nat) (hp : p.length = m) (hm : m ≤ 1048576) : rtB (l ++ (numB m ++ p)) l.length = p ∧ rtE (l ++ (numB m ++ p)) l.length = 0 := by
  have e := rd_numB l p m (by omega) (by omega)
  have hl : ((l ++ (numB m ++ p)).length : Int) = (l.length : Int) + (1 + shelf m) + m := by simp [numB_len, hp]; omega
  unfold rtB rtE
  rw [e, hl]
  simp only [ne_eq, not_true_eq_false, ite_false]
  rw [if_neg (by omega), if_neg (by omega), if_neg (by omega), if_neg (by omega)]
  refine ⟨?_, rfl⟩
  have e1 : ((l.length : Int) + (1 + (shelf m : Int))).toNat = (l ++ numB m).length := by simp [numB_len]; omega
  rw [e1, ← List.append_assoc, List.drop_left, Int.toNat_natCast, ← hp, List.take_length]

end Go.Proofs.Ytmdhcigkhapolab
