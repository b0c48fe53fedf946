/-
  Clients that share quanta: plain mathematics, no program.
-/
import Derived.Test.YtdenhpclopjjgaaBase
namespace Go.Proofs.Ytdenhpclopjjgaa
open Go.RowKit
set_option linter.unusedVariables false

/-- A client. -/
structure Cl where
  id : Int
  tk : Int
  ps : Int
deriving DecidableEq
def Cl.cs (x : Cl) : List Value := [.int .i64 x.id, .int .i64 x.tk, .int .i64 x.ps]
theorem Cl.cs_len (x : Cl) : x.cs.length = 3 := rfl
def cl0 : Cl := ⟨0, 0, 0⟩
instance : Inhabited Cl := ⟨cl0⟩
def ca (l : List Cl) (i : Nat) : Cl := l[i]?.getD cl0
theorem ca_get {l : List Cl} {i : Nat} (h : i < l.length) : l[i]? = some (ca l i) := by unfold ca; rw [List.getElem?_eq_getElem h]; rfl
theorem ca_mem {l : List Cl} {i : Nat} (h : i < l.length) : ca l i ∈ l := List.mem_of_getElem? (ca_get h)
theorem ca_eq {l : List Cl} {i : Nat} (h : i < l.length) : l[i] = ca l i := by unfold ca; rw [List.getElem?_eq_getElem h]; rfl
theorem ca_map {l : List Cl} {i : Nat} (f : Cl → Cl) (h : i < l.length) : ca (l.map f) i = f (ca l i) := by unfold ca; rw [List.getElem?_map, List.getElem?_eq_getElem h]; rfl
theorem ca_set {l : List Cl} {i j : Nat} {x : Cl} (h : j < l.length) : ca (l.set i x) j = if i = j then x else ca l j := by
  unfold ca
  by_cases e : i = j
  · subst e; rw [List.getElem?_set_self h, if_pos rfl]; rfl
  · rw [List.getElem?_set_ne e, if_neg e]
theorem ca_ext {l m : List Cl} (h : l.length = m.length) (e : ∀ i, i < l.length → ca l i = ca m i) : l = m := by
  refine List.ext_getElem h (fun i h1 h2 => ?_)
  rw [ca_eq h1, ca_eq h2]; exact e i h1

/-- How far a quantum brings a client. -/
def stv (t : Int) : Int := 720720 / t
theorem stv_mul {t : Int} (h1 : 1 ≤ t) (h2 : t ≤ 16) : t * stv t = 720720 := by
  have h : t = 1 ∨ t = 2 ∨ t = 3 ∨ t = 4 ∨ t = 5 ∨ t = 6 ∨ t = 7 ∨ t = 8 ∨ t = 9 ∨ t = 10 ∨ t = 11 ∨ t = 12 ∨ t = 13 ∨ t = 14 ∨ t = 15 ∨ t = 16 := by omega
  rcases h with rfl | rfl | rfl | rfl | rfl | rfl | rfl | rfl | rfl | rfl | rfl | rfl | rfl | rfl | rfl | rfl <;> decide
theorem stv_pos {t : Int} (h1 : 1 ≤ t) (h2 : t ≤ 16) : 45045 ≤ stv t ∧ stv t ≤ 720720 := by
  have h : t = 1 ∨ t = 2 ∨ t = 3 ∨ t = 4 ∨ t = 5 ∨ t = 6 ∨ t = 7 ∨ t = 8 ∨ t = 9 ∨ t = 10 ∨ t = 11 ∨ t = 12 ∨ t = 13 ∨ t = 14 ∨ t = 15 ∨ t = 16 := by omega
  rcases h with rfl | rfl | rfl | rfl | rfl | rfl | rfl | rfl | rfl | rfl | rfl | rfl | rfl | rfl | rfl | rfl <;> decide

/-- Of the first k clients the first one that is least far. -/
def nx (l : List Cl) : Nat → Nat
  | 0 => 0
  | k + 1 => if (ca l k).ps < (ca l (nx l k)).ps then k else nx l k
theorem nx_le (l : List Cl) (k : Nat) : nx l k ≤ k - 1 ∨ nx l k = 0 := by
  induction k with
  | zero => right; rfl
  | succ k ih => unfold nx; split <;> omega
theorem nx_lt {l : List Cl} {k : Nat} (h : 0 < k) : nx l k < k := by have := nx_le l k; omega
theorem nx_low (l : List Cl) (k : Nat) : ∀ i, i < k → (ca l (nx l k)).ps ≤ (ca l i).ps := by
  induction k with
  | zero => intro i h; omega
  | succ k ih =>
    intro i h
    unfold nx
    split
    · rename_i hc
      rcases Nat.lt_or_ge i k with h1 | h1
      · have := ih i h1; omega
      · obtain rfl : i = k := by omega
        omega
    · rename_i hc
      rcases Nat.lt_or_ge i k with h1 | h1
      · exact ih i h1
      · obtain rfl : i = k := by omega
        omega
theorem nx_first (l : List Cl) (k : Nat) : ∀ i, i < nx l k → (ca l (nx l k)).ps < (ca l i).ps := by
  induction k with
  | zero => intro i h; simp [nx] at h
  | succ k ih =>
    intro i h
    unfold nx at h ⊢
    split at h
    · rename_i hc
      rw [if_pos hc]
      have := nx_low l k i h; omega
    · rename_i hc
      rw [if_neg hc]
      exact ih i h
theorem nx_eq {l : List Cl} {k j : Nat} (hj : j < k) (h1 : ∀ i, i < k → (ca l j).ps ≤ (ca l i).ps) (h2 : ∀ i, i < j → (ca l j).ps < (ca l i).ps) : nx l k = j := by
  have a := nx_low l k j hj
  have b := h1 (nx l k) (nx_lt (by omega))
  rcases Nat.lt_trichotomy (nx l k) j with h | h | h
  · have := h2 _ h; omega
  · exact h
  · have := nx_first l k _ h; omega

def bs (l : List Cl) : Nat := nx l l.length
def low (l : List Cl) : Int := (ca l (bs l)).ps
theorem bs_lt {l : List Cl} (h : 0 < l.length) : bs l < l.length := nx_lt h
theorem low_le {l : List Cl} {i : Nat} (h : i < l.length) : low l ≤ (ca l i).ps := nx_low l _ i h
theorem low_eq {l : List Cl} {m : Int} (hm : ∀ i, i < l.length → m ≤ (ca l i).ps) {j : Nat} (hj : j < l.length) (e : (ca l j).ps = m) : low l = m := by
  have a := low_le (l := l) hj
  have b := hm _ (bs_lt (l := l) (by omega))
  unfold low at *
  omega
/-- The least pass taken off all. -/
def lev (l : List Cl) : List Cl := l.map (fun c => ⟨c.id, c.tk, c.ps - low l⟩)
theorem lev_len (l : List Cl) : (lev l).length = l.length := by simp [lev]
theorem ca_lev {l : List Cl} {i : Nat} (h : i < l.length) : ca (lev l) i = ⟨(ca l i).id, (ca l i).tk, (ca l i).ps - low l⟩ := ca_map _ h
theorem lev_zero {l : List Cl} (h : low l = 0) : lev l = l := by
  refine ca_ext (lev_len l) (fun i hi => ?_)
  rw [lev_len] at hi
  rw [ca_lev hi, h]; simp
theorem low_lev {l : List Cl} (h : 0 < l.length) : low (lev l) = 0 := by
  refine low_eq (m := 0) (fun i hi => ?_) (j := bs l) (by rw [lev_len]; exact bs_lt h) ?_
  · rw [lev_len] at hi
    rw [ca_lev hi]
    have := low_le hi
    simp only; omega
  · rw [ca_lev (bs_lt h)]; simp [low]
theorem lev_nil : lev [] = [] := rfl

/-- A client more far by a quantum. -/
def fa (c : Cl) : Cl := ⟨c.id, c.tk, c.ps + stv c.tk⟩
/-- Behind a quantum; who has got it. -/
def pk (l : List Cl) : List Cl := lev (l.set (bs l) (fa (ca l (bs l))))
def pid (l : List Cl) : Int := (ca l (bs l)).id
theorem pk_len (l : List Cl) : (pk l).length = l.length := by unfold pk; rw [lev_len, List.length_set]
def pks (l : List Cl) : Nat → List Cl
  | 0 => l
  | k + 1 => pk (pks l k)
theorem pks_len (l : List Cl) (k : Nat) : (pks l k).length = l.length := by
  induction k with
  | zero => rfl
  | succ k ih => unfold pks; rw [pk_len, ih]
def pids (l : List Cl) (n : Nat) : List Int := (List.range n).map (fun k => pid (pks l k))
theorem pids_len (l : List Cl) (n : Nat) : (pids l n).length = n := by simp [pids]
theorem pids_succ (l : List Cl) (n : Nat) : pids l (n + 1) = pids l n ++ [pid (pks l n)] := by unfold pids; rw [List.range_succ, List.map_append]; rfl
theorem pks_add (l : List Cl) (a b : Nat) : pks l (a + b) = pks (pks l a) b := by
  induction b with
  | zero => rfl
  | succ b ih => show pk (pks l (a + b)) = pk (pks (pks l a) b); rw [ih]
theorem pids_add (l : List Cl) (a b : Nat) : pids l (a + b) = pids l a ++ pids (pks l a) b := by
  induction b with
  | zero => simp [pids]
  | succ b ih => rw [← Nat.add_assoc, pids_succ, ih, pids_succ, pks_add, List.append_assoc]

/-- What a group keeps to. -/
structure Gr (l : List Cl) : Prop where
  len : l.length ≤ 1024
  ids : ∀ i j, i < j → j < l.length → (ca l i).id < (ca l j).id
  rng : ∀ i, i < l.length → I64 (ca l i).id ∧ 1 ≤ (ca l i).tk ∧ (ca l i).tk ≤ 16 ∧ 0 ≤ (ca l i).ps ∧ (ca l i).ps ≤ stv (ca l i).tk
  low : 0 < l.length → low l = 0
theorem Gr.nil : Gr [] := ⟨by simp, fun i j _ h => by simp at h, fun i h => by simp at h, fun h => by simp at h⟩
theorem Gr.of_lev {l : List Cl} (h1 : l.length ≤ 1024) (h2 : ∀ i j, i < j → j < l.length → (ca l i).id < (ca l j).id) (h3 : ∀ i, i < l.length → I64 (ca l i).id ∧ 1 ≤ (ca l i).tk ∧ (ca l i).tk ≤ 16 ∧ 0 ≤ (ca l i).ps ∧ (ca l i).ps ≤ stv (ca l i).tk) : Gr (lev l) := by
  refine ⟨by rw [lev_len]; exact h1, fun i j hij hj => ?_, fun i hi => ?_, fun h => low_lev (by rw [lev_len] at h; exact h)⟩
  · rw [lev_len] at hj
    rw [ca_lev hj, ca_lev (by omega)]
    exact h2 i j hij hj
  · rw [lev_len] at hi
    rw [ca_lev hi]
    obtain ⟨a, b, c, d, e⟩ := h3 i hi
    have h4 := low_le hi
    have h5 : 0 ≤ Go.Proofs.Ytdenhpclopjjgaa.low l := (h3 _ (bs_lt (by omega))).2.2.2.1
    exact ⟨a, b, c, by simp only; omega, by simp only; omega⟩
/-- The list with a client at a place that may stand there. -/
theorem Gr.set_far {l : List Cl} (h : Gr l) (hp : 0 < l.length) : ∀ i, i < l.length → I64 (ca (l.set (bs l) (fa (ca l (bs l)))) i).id ∧ 1 ≤ (ca (l.set (bs l) (fa (ca l (bs l)))) i).tk ∧ (ca (l.set (bs l) (fa (ca l (bs l)))) i).tk ≤ 16 ∧ 0 ≤ (ca (l.set (bs l) (fa (ca l (bs l)))) i).ps ∧ (ca (l.set (bs l) (fa (ca l (bs l)))) i).ps ≤ stv (ca (l.set (bs l) (fa (ca l (bs l)))) i).tk := by
  intro i hi
  rw [ca_set hi]
  split
  · rename_i e
    obtain ⟨a, b, c, d, e⟩ := h.rng _ (bs_lt hp)
    have hl := h.low hp
    unfold Go.Proofs.Ytdenhpclopjjgaa.low at hl
    have := stv_pos b c
    exact ⟨a, b, c, by unfold fa; simp only; omega, by unfold fa; simp only; omega⟩
  · exact h.rng i hi
theorem Gr.pk {l : List Cl} (h : Gr l) (hp : 0 < l.length) : Gr (pk l) := by
  refine Gr.of_lev (by rw [List.length_set]; exact h.len) (fun i j hij hj => ?_) (fun i hi => ?_)
  · rw [List.length_set] at hj
    have := h.ids i j hij hj
    rw [ca_set hj, ca_set (by omega)]
    split <;> split <;> (first | (rename_i e1 e2; subst e1; simpa [fa] using this) | (rename_i e1 e2; subst e2; simpa [fa] using this) | exact this | omega)
  · rw [List.length_set] at hi
    exact h.set_far hp i hi
theorem Gr.pks {l : List Cl} (h : Gr l) (hp : 0 < l.length) (k : Nat) : Gr (pks l k) := by
  induction k with
  | zero => exact h
  | succ k ih => exact ih.pk (by rw [pks_len]; exact hp)

end Go.Proofs.Ytdenhpclopjjgaa
