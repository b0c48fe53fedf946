/-
  What is read is what was written: numbers, lists, tasks, leases, entries, answers, states. Plain mathematics.
  What is read is written as it was: entries, answers, states.
  What was written is read as it was: answers, states; and alike to it.
  Both ways in one word for each kind of thing; what is read is written as it was.
  Arguments opened: answers, states.
-/
import Derived.Test.YthkbddnkcljjpaaMCM
import Derived.Test.YthkbddnkcljjpaaMFA
import Derived.Test.YthkbddnkcljjpaaMCA
import Derived.Test.YthkbddnkcljjpaaMED
import Derived.Test.YthkbddnkcljjpaaMFI
import Derived.Test.YthkbddnkcljjpaaMCZ
import Derived.Test.YthkbddnkcljjpaaCZV
namespace Go.Proofs.Ythkbddnkcljjpaa
open Go.RowKit Go.Deep
set_option linter.unusedVariables false
set_option linter.unusedSimpArgs false

theorem be_low (k : Nat) (x v : Int) : be k (x * 256 ^ k + v) = be k v := by
  unfold be
  apply List.map_congr_left
  intro i hi
  have hi : i < k := List.mem_range.1 hi
  have e : (256 : Int) ^ k = 256 ^ i * 256 * 256 ^ (k - 1 - i) := by
    rw [← Int.pow_succ, ← Int.pow_add]
    congr 1
    omega
  rw [e, Int.add_comm, ← Int.mul_assoc, Int.add_mul_ediv_right _ _ (Int.ne_of_gt (pow_pos _)), ← Int.mul_assoc, Int.add_mul_emod_self_right]
theorem be_val : ∀ (bs : List Int), BB bs → be bs.length (val bs) = bs
  | [], _ => rfl
  | x :: l, h => by
    have hx := h x (List.mem_cons_self ..)
    have hl : BB l := fun y hy => h y (List.mem_cons_of_mem _ hy)
    have hv := val_bd l hl
    have hp := pow_pos l.length
    rw [List.length_cons, be_cons, val_cons, be_low, be_val l hl, Int.add_comm, Int.add_mul_ediv_right _ _ (Int.ne_of_gt hp), Int.ediv_eq_zero_of_lt hv.1 hv.2]
    congr 1
    omega
/-- Between two places stand just these bytes. -/
def Seg (l : List Int) (s : Int × Int) (bs : List Int) (t : Int × Int) : Prop := s.2 = 0 ∧ t.2 = 0 ∧ 0 ≤ s.1 ∧ s.1 ≤ t.1 ∧ t.1 ≤ l.length ∧ l.drop s.1.toNat = bs ++ l.drop t.1.toNat
theorem Seg.trans {l b b' : List Int} {s t u : Int × Int} (h : Seg l s b t) (g : Seg l t b' u) : Seg l s (b ++ b') u := by
  obtain ⟨h1, h2, h3, h4, h5, h6⟩ := h
  obtain ⟨g1, g2, g3, g4, g5, g6⟩ := g
  exact ⟨h1, g2, h3, by omega, g5, by rw [h6, g6, List.append_assoc]⟩
theorem Seg.refl {l : List Int} {s : Int × Int} (h : s.2 = 0) (h0 : 0 ≤ s.1) (h1 : s.1 ≤ l.length) : Seg l s [] s := ⟨h, h, h0, by omega, h1, rfl⟩
theorem rd_was {l : List Int} {A : Int} (hb : BB l) (h0 : 0 ≤ A) (h1 : A ≤ l.length) (h : (rd l A).2.2 = 0) : Seg l (A, 0) (numB (rd l A).1) (rd l A).2 := by
  obtain ⟨a, rfl⟩ : ∃ a : Nat, A = a := ⟨A.toNat, by omega⟩
  have hn : ¬ ((a : Int) < 0 ∨ (l.length : Int) < a) := by omega
  unfold rd at h ⊢
  rw [if_neg hn] at h ⊢
  by_cases e1 : (a : Int) = l.length
  · rw [if_pos e1] at h; simp at h
  rw [if_neg e1] at h ⊢
  have ha : a < l.length := by omega
  have hg : l[((a : Nat) : Int).toNat]?.getD 0 = l[a] := by rw [Int.toNat_natCast, List.getElem?_eq_getElem ha]; rfl
  have hd : l.drop a = l[a] :: l.drop (a + 1) := List.drop_eq_getElem_cons ha
  have hx := hb _ (List.getElem_mem ha)
  rw [hg] at h ⊢
  rw [Int.toNat_natCast] at h ⊢
  generalize l[a] = c at *
  by_cases e2 : c < 192
  · rw [if_pos e2]
    refine ⟨rfl, rfl, by simp only; omega, by simp only; omega, by simp only; omega, ?_⟩
    simp only [Int.toNat_natCast]
    rw [hd, show ((a : Int) + 1).toNat = a + 1 by omega]
    unfold numB
    rw [if_pos (shelf0' e2)]
    rfl
  rw [if_neg e2] at h ⊢
  by_cases e3 : 200 ≤ c
  · rw [if_pos e3] at h; simp at h
  rw [if_neg e3] at h ⊢
  by_cases e4 : (l.length : Int) - a - 1 < c - 191
  · rw [if_pos e4] at h; simp at h
  rw [if_neg e4] at h ⊢
  obtain ⟨k, hk⟩ : ∃ k : Nat, c = 191 + (k : Int) := ⟨(c - 191).toNat, by omega⟩
  have hk' : (c - 191).toNat = k := by omega
  rw [hk'] at h ⊢
  have hkb : 1 ≤ k ∧ k ≤ 8 := by omega
  have hbs : BB ((l.drop (a + 1)).take k) := (hb.drop _).take _
  have hlen : ((l.drop (a + 1)).take k).length = k := by rw [List.length_take, List.length_drop]; omega
  have hv := val_bd _ hbs
  have hbe := be_val _ hbs
  have hsp : l.drop (a + 1) = (l.drop (a + 1)).take k ++ l.drop (a + 1 + k) := by
    conv => lhs; rw [← List.take_append_drop k (l.drop (a + 1))]
    rw [List.drop_drop]
  rw [hlen] at hv hbe
  generalize (l.drop (a + 1)).take k = bs at *
  by_cases e5 : 18446744073709551615 < beg k + val bs
  · rw [if_pos e5] at h; simp at h
  rw [if_neg e5] at h ⊢
  have hsh : shelf (beg k + val bs) = k := shelf_eq k hkb.2 (by omega) (fun h8 => by rw [beg_succ k h8, cnt_pow k h8 (by omega)]; omega)
  refine ⟨rfl, rfl, by simp only; omega, by simp only; omega, by simp only; omega, ?_⟩
  simp only [Int.toNat_natCast]
  rw [hd, show ((a : Int) + 1 + (c - 191)).toNat = a + 1 + k by omega, hsp]
  unfold numB
  rw [hsh, if_neg (by omega), show beg k + val bs - beg k = val bs by omega, hbe, ← hk]
  rfl
theorem zig_zag {x : Int} (h0 : 0 ≤ x) : zig (zag x) = x := by unfold zig zag; split <;> split <;> omega
theorem zag_i64 {x : Int} (h0 : 0 ≤ x) (h1 : x ≤ 18446744073709551615) : I64 (zag x) := by unfold zag I64; split <;> omega
theorem tkI_i64 {l : List Int} (hb : BB l) (A E : Int) : I64 (tkI l A E).1 := by
  unfold tkI
  have h := rd_bd l A hb
  split
  · exact zag_i64 h.1 h.2
  · unfold I64; omega
section
variable {α : Type}
def Was (l : List Int) (pe : Int → Int → α × Int × Int) (en : α → List Int) : Prop := ∀ s : Int × Int, 0 ≤ s.1 → s.1 ≤ l.length → (pe s.1 s.2).2.2 = 0 → Seg l s (en (pe s.1 s.2).1) (pe s.1 s.2).2
theorem tkI_was {l : List Int} (hb : BB l) : Was l (tkI l) (fun x => numB (zig x)) := fun s h0 h1 h => by
  obtain ⟨A, E⟩ := s
  have hE : E = 0 := tkI_keep h
  subst hE
  have hv := rd_bd l A hb
  unfold tkI at h ⊢
  rw [if_pos rfl] at h ⊢
  have := rd_was hb h0 h1 h
  simp only
  rw [zig_zag hv.1]
  exact this
theorem upT_was {l : List Int} (hb : BB l) {m f : Int} (hf : f ≠ 0) {s : Int × Int} (h0 : 0 ≤ s.1) (h1 : s.1 ≤ l.length) (h : (upT l s.1 s.2 m f).2.2 = 0) : Seg l s (numB (upT l s.1 s.2 m f).1) (upT l s.1 s.2 m f).2 := by
  obtain ⟨A, E⟩ := s
  have hE : E = 0 := upT_keep hf h
  subst hE
  unfold upT at h ⊢
  rw [if_pos rfl] at h ⊢
  split
  · rename_i e
    rw [if_pos e] at h
    exact absurd h hf
  · rename_i e
    rw [if_neg e] at h
    exact rd_was hb h0 h1 h
theorem lsS_was {l : List Int} {pe : Int → Int → α × Int × Int} {en : α → List Int} (hw : Was l pe en) {A E : Int} (h0 : 0 ≤ A) (h1 : A ≤ l.length) (at' : ∀ k, 0 ≤ (lsS pe A E k).1 ∧ (lsS pe A E k).1 ≤ l.length) : ∀ k, (lsS pe A E k).2 = 0 → Seg l (A, E) (((List.range k).map (lsV pe A E)).flatMap en) (lsS pe A E k)
  | 0, h => Seg.refl h h0 h1
  | k + 1, h => by
    have s1 := hw (lsS pe A E k) (at' k).1 (at' k).2 h
    have s2 := lsS_was hw h0 h1 at' k s1.1
    have e : ((List.range (k + 1)).map (lsV pe A E)).flatMap en = ((List.range k).map (lsV pe A E)).flatMap en ++ en (lsV pe A E k) := by
      rw [List.range_succ, List.map_append, List.flatMap_append]; simp
    rw [e]
    exact s2.trans s1
theorem li_was {l : List Int} (hb : BB l) {pe : Int → Int → α × Int × Int} {en : α → List Int} (hw : Was l pe en) (hat : ∀ A E, 0 ≤ A → A ≤ (l.length : Int) → 0 ≤ (pe A E).2.1 ∧ (pe A E).2.1 ≤ (l.length : Int)) {s : Int × Int} (h0 : 0 ≤ s.1) (h1 : s.1 ≤ l.length) (h : (liF pe l s.1 s.2).2 = 0) :
    Seg l s (listE en (liL pe l s.1 s.2)) (liF pe l s.1 s.2) ∧ (liL pe l s.1 s.2).length ≤ 1024 := by
  have UB := upT_bd l s.1 s.2 1024 3 hb (by omega)
  have UA := upT_at l s.1 s.2 1024 3 h0 h1
  have UW := upT_was hb (m := 1024) (f := 3) (by omega) h0 h1
  unfold liF liL at *
  generalize upT l s.1 s.2 1024 3 = U at *
  obtain ⟨c, A0, E0⟩ := U
  simp only at *
  obtain ⟨C, rfl⟩ : ∃ C : Nat, c = (C : Int) := ⟨c.toNat, by omega⟩
  have AT := lsS_at (pe := pe) (n := l.length) hat (E := E0) UA.1 UA.2
  have LW := lsS_was hw UA.1 UA.2 AT
  have hC : lsC pe A0 E0 (C : Int) = lsN pe A0 E0 C 0 := rfl
  have NO := lsN_no pe A0 E0 C 0
  have NL := (lsN_le pe A0 E0 C 0).2
  unfold lsF at h ⊢
  unfold lsL
  rw [hC, Int.toNat_natCast] at h ⊢
  generalize lsN pe A0 E0 C 0 = N at *
  by_cases hN : N < C
  · rw [if_pos hN] at h
    exact absurd h (NO (by omega))
  · rw [if_neg hN] at h ⊢
    have e : N = C := by omega
    subst e
    have s2 := LW N h
    have s1 := UW s2.1
    refine ⟨?_, by simp; omega⟩
    have := s1.trans s2
    unfold listE
    simpa using this
end
theorem tkc_was {l : List Int} (hb : BB l) {s : Int × Int} (h0 : 0 ≤ s.1) (h1 : s.1 ≤ l.length) : ∀ k, (tkc l s.1 s.2 k).2.2 = 0 → Seg l s (bytesZ ((List.range (k + 1)).map (fun j => (tkc l s.1 s.2 j).1))) (tkc l s.1 s.2 k).2
  | 0, h => by
    have s1 := tkI_was hb s h0 h1 h
    have e : bytesZ ((List.range (0 + 1)).map (fun j => (tkc l s.1 s.2 j).1)) = numB (zig (tkI l s.1 s.2).1) := by
      show bytesZ [(tkI l s.1 s.2).1] = _
      simp [bytesZ]
    rw [e]
    exact s1
  | k + 1, h => by
    have ha := tkc_at l s.1 s.2 h0 h1 k
    have s1 := tkI_was hb (tkc l s.1 s.2 k).2 ha.1 ha.2 h
    have s2 := tkc_was hb h0 h1 k s1.1
    have e : bytesZ ((List.range (k + 1 + 1)).map (fun j => (tkc l s.1 s.2 j).1)) = bytesZ ((List.range (k + 1)).map (fun j => (tkc l s.1 s.2 j).1)) ++ numB (zig (tkI l (tkc l s.1 s.2 k).2.1 (tkc l s.1 s.2 k).2.2).1) := by
      rw [List.range_succ (n := k + 1), List.map_append, bytesZ_app]
      congr 1
      simp [bytesZ, tkc]
    rw [e]
    exact s2.trans s1
theorem tkc_i64 {l : List Int} (hb : BB l) (A E : Int) : ∀ k, I64 (tkc l A E k).1
  | 0 => tkI_i64 hb A E
  | k + 1 => tkI_i64 hb _ _
theorem liL_i64 {l : List Int} (hb : BB l) (A E : Int) : ∀ x ∈ liL (tkI l) l A E, I64 x := by
  intro x hx
  unfold liL lsL at hx
  obtain ⟨k, _, rfl⟩ := List.mem_map.1 hx
  exact tkI_i64 hb _ _
theorem rdQ_was {l : List Int} (hb : BB l) : Was l (rdQ l) q7Z := fun s h0 h1 h => tkc_was hb h0 h1 6 h
theorem rdN_was {l : List Int} (hb : BB l) : Was l (rdN l) n5Z := fun s h0 h1 h => tkc_was hb h0 h1 4 h
theorem rdH_was {l : List Int} (hb : BB l) : Was l (rdH l) h2Z := fun s h0 h1 h => tkc_was hb h0 h1 1 h
theorem taL_was {l : List Int} (hb : BB l) {s : Int × Int} (h0 : 0 ≤ s.1) (h1 : s.1 ≤ l.length) (h : (liF (tkI l) l s.1 s.2).2 = 0) : Seg l s (listZ (liL (tkI l) l s.1 s.2)) (liF (tkI l) l s.1 s.2) := by
  have := li_was hb (tkI_was hb) (fun A E h0 h1 => tkI_at l A E h0 h1) h0 h1 h
  rw [listZ_eq this.2]
  exact this.1
theorem rdT_was {l : List Int} (hb : BB l) : Was l (rdT l) t7Z := fun s h0 h1 h => by
  have a1 := tkc_at l s.1 s.2 h0 h1 4
  have a2 := liF_at (pe := tkI l) (l := l) (A := (tkc l s.1 s.2 4).2.1) (E := (tkc l s.1 s.2 4).2.2) (fun A E h0 h1 => tkI_at l A E h0 h1) a1.1 a1.2
  have s3 := tkI_was hb (taB l s.1 s.2) a2.1 a2.2 h
  have s2 := taL_was hb (s := (tkc l s.1 s.2 4).2) a1.1 a1.2 s3.1
  have s1 := tkc_was hb h0 h1 4 s2.1
  have := s1.trans (s2.trans s3)
  have e : t7Z (rdT l s.1 s.2).1 = bytesZ ((List.range (4 + 1)).map (fun j => (tkc l s.1 s.2 j).1)) ++ (listZ (liL (tkI l) l (tkc l s.1 s.2 4).2.1 (tkc l s.1 s.2 4).2.2) ++ numB (zig (tkI l (taB l s.1 s.2).1 (taB l s.1 s.2).2).1)) := by
    unfold t7Z taskZ
    show bytesZ _ ++ (listZ _ ++ bytesZ _) = _
    congr 2
    simp [bytesZ, rdT, taE]
  rw [e]
  exact this
theorem flag_was {x : Int} (h0 : 0 ≤ x) (h1 : x ≤ 1) : flagZ (x == 1) = numB x := by
  unfold flagZ
  congr 1
  rcases (by omega : x = 0 ∨ x = 1) with rfl | rfl <;> rfl
theorem rdL_was {l : List Int} (hb : BB l) : Was l (rdL l) leZ := fun s h0 h1 h => by
  have a1 := tkc_at l s.1 s.2 h0 h1 2
  have a2 := rlB_at l s.1 s.2 h0 h1
  have a3 := rlN_at l s.1 s.2 h0 h1 2
  have s4 := upT_was hb (m := 1) (f := 4) (by omega) (s := (rlN l s.1 s.2 2).2) a3.1 a3.2 h
  have s3 := tkc_was hb (s := rlB l s.1 s.2) a2.1 a2.2 2 s4.1
  have s2 := taL_was hb (s := (tkc l s.1 s.2 2).2) a1.1 a1.2 s3.1
  have s1 := tkc_was hb h0 h1 2 s2.1
  have fb := upT_bd l (rlN l s.1 s.2 2).2.1 (rlN l s.1 s.2 2).2.2 1 4 hb (by omega)
  have := s1.trans (s2.trans (s3.trans s4))
  rw [← flag_was fb.1 fb.2] at this
  exact this
theorem rdT_ok {l : List Int} (hb : BB l) (A E : Int) : (rdT l A E).1.ok := ⟨⟨tkc_i64 hb _ _ 0, tkc_i64 hb _ _ 1, tkc_i64 hb _ _ 2, tkc_i64 hb _ _ 3, tkc_i64 hb _ _ 4, tkI_i64 hb _ _⟩, liL_i64 hb _ _⟩
theorem rdL_ok {l : List Int} (hb : BB l) (A E : Int) : (rdL l A E).1.okA := ⟨⟨tkc_i64 hb _ _ 0, tkc_i64 hb _ _ 1, tkc_i64 hb _ _ 2, tkc_i64 hb _ _ 0, tkc_i64 hb _ _ 1, tkc_i64 hb _ _ 2⟩, liL_i64 hb _ _⟩
theorem end_was {l bs : List Int} {n : Nat} {A E : Int} (hn : l.length = n) (h : (endT n A E).2 = 0) (s : E = 0 → Seg l (0, 0) bs (A, E)) : l = bs := by
  have hE : E = 0 := by unfold endT at h; split at h; assumption; exact h
  obtain ⟨_, _, h3, h4, h5, h6⟩ := s hE
  subst hE
  have hA : A = n := by
    unfold endT at h
    rw [if_pos rfl] at h
    split at h
    · simp at h
    · simp only at h4 h5; omega
  subst hA
  simp only [Int.toNat_natCast, ← hn, List.drop_length, List.append_nil] at h6
  simpa using h6
end Go.Proofs.Ythkbddnkcljjpaa

namespace Go.Proofs.Ythkbddnkcljjpaa
open Go.RowKit Go.Deep Go.Maps
set_option linter.unusedVariables false
set_option linter.unusedSimpArgs false
theorem liL_len {α : Type} (pe : Int → Int → α × Int × Int) (l : List Int) (A E : Int) : (liL pe l A E).length = liC pe l A E := lsL_len _ _ _ _
theorem liL_at {α : Type} (pe : Int → Int → α × Int × Int) (l : List Int) (A E : Int) {j : Nat} (h : j < (liL pe l A E).length) : (liL pe l A E)[j] = liV pe l A E j := by
  have e : (liL pe l A E)[j]? = some (liV pe l A E j) := by
    rw [liL_len] at h
    unfold liL lsL
    rw [List.getElem?_map, List.getElem?_range (show j < lsC pe (upT l A E 1024 3).2.1 (upT l A E 1024 3).2.2 (upT l A E 1024 3).1 from h)]
    rfl
  rw [List.getElem?_eq_getElem h] at e
  exact Option.some.inj e
theorem flat_same {α : Type} {en : α → List Int} {xs ys : List α} (hl : xs.length = ys.length) (h : ∀ j (g : j < xs.length) (g2 : j < ys.length), en xs[j] = en ys[j]) : xs.flatMap en = ys.flatMap en := by
  have e : xs.map en = ys.map en := List.ext_getElem (by simpa using hl) (by intro j h1 h2; simp only [List.getElem_map]; exact h j (by simpa using h1) (by simpa using h2))
  rw [List.flatMap_def, List.flatMap_def, e]
theorem listW_li {α : Type} {en : α → List Int} {xs ys : List α} (hn : xs.length ≤ 1024) (hl : xs.length = ys.length) (h : ∀ j (g : j < xs.length) (g2 : j < ys.length), en xs[j] = en ys[j]) : listW en ys = listE en xs := by
  unfold listW listE
  rw [if_neg (by omega), hl, flat_same hl h]
theorem flW_none {α : Type} {xs : List α} (hn : xs.length ≤ 1024) : flW (fun _ => false) xs = false := by
  unfold flW
  rw [if_neg (by omega)]
  simp
theorem flW_le {ys : List Le} (hn : ys.length ≤ 1024) (h : ∀ x ∈ ys, x.sl ≤ 1024) : flW leL ys = false := by
  unfold flW
  rw [if_neg (by omega)]
  simp only [List.any_eq_false]
  intro x hx
  have := h x hx
  simp [leL]; omega
theorem flW_ta {ys : List T7} (hn : ys.length ≤ 1024) (h : ∀ x ∈ ys, x.sl ≤ 1024) : flW t7L ys = false := by
  unfold flW
  rw [if_neg (by omega)]
  simp only [List.any_eq_false]
  intro x hx
  have := h x hx
  simp [t7L]; omega
theorem le_sl' {l : List Int} (hb : BB l) {A E : Int} {ys : List Le} (s : ∀ j (g : j < ys.length), LeSame (liV (rdL l) l A E j) ys[j]) : ∀ x ∈ ys, x.sl ≤ 1024 ∧ x.okA := fun x hx => by
  obtain ⟨j, g, rfl⟩ := List.getElem_of_mem hx
  have h2 : (liV (rdL l) l A E j).sl ≤ 1024 := liC_up (pe := tkI l) (l := l) hb
  have h3 : (liV (rdL l) l A E j).okA := rdL_ok hb _ _
  obtain ⟨a, b, c, d, e, f, g, i, k⟩ := s j g
  unfold Le.okA at *
  rw [← a, ← b, ← c, ← d, ← e, ← f, ← g, ← k]
  exact ⟨h2, h3⟩
theorem ta_sl' {l : List Int} (hb : BB l) {A E : Int} {ys : List T7} (s : ∀ j (g : j < ys.length), TaSame (liV (rdT l) l A E j) ys[j]) : ∀ x ∈ ys, x.sl ≤ 1024 ∧ x.ok := fun x hx => by
  obtain ⟨j, g, rfl⟩ := List.getElem_of_mem hx
  have h2 : (liV (rdT l) l A E j).sl ≤ 1024 := liC_up (pe := tkI l) (l := l) hb
  have h3 : (liV (rdT l) l A E j).ok := rdT_ok hb _ _
  obtain ⟨a, b, c, d, e, f, g, i⟩ := s j g
  unfold T7.ok at *
  rw [← a, ← b, ← c, ← d, ← e, ← f, ← g, ← i]
  exact ⟨h2, h3⟩
theorem leZ_same {x y : Le} (h : LeSame x y) : leZ x = leZ y := by obtain ⟨a, b, c, d, e, f, g, i, j⟩ := h; unfold leZ; rw [a, b, c, e, f, g, i, j]
theorem t7Z_same {x y : T7} (h : TaSame x y) : t7Z x = t7Z y := by obtain ⟨a, b, c, d, e, f, g, i⟩ := h; unfold t7Z; rw [a, b, c, d, e, g, i]
theorem listW_L {l : List Int} (hb : BB l) {A E : Int} {ys : List Le} (hl : ys.length = liC (rdL l) l A E) (s : ∀ j (g : j < ys.length), LeSame (liV (rdL l) l A E j) ys[j]) : listW leZ ys = listE leZ (liL (rdL l) l A E) :=
  listW_li (by rw [liL_len]; exact liC_up hb) (by rw [liL_len]; exact hl.symm) (fun j g g2 => by rw [liL_at]; exact leZ_same (s j g2))
theorem listW_T {l : List Int} (hb : BB l) {A E : Int} {ys : List T7} (hl : ys.length = liC (rdT l) l A E) (s : ∀ j (g : j < ys.length), TaSame (liV (rdT l) l A E j) ys[j]) : listW t7Z ys = listE t7Z (liL (rdT l) l A E) :=
  listW_li (by rw [liL_len]; exact liC_up hb) (by rw [liL_len]; exact hl.symm) (fun j g g2 => by rw [liL_at]; exact t7Z_same (s j g2))
theorem listW_self {α : Type} {en : α → List Int} {xs : List α} (hn : xs.length ≤ 1024) : listW en xs = listE en xs := listW_li hn rfl (fun _ _ _ => rfl)
/-- The bytes of an entry that is read. -/
theorem en_was {l : List Int} (hb : BB l) (h : (enE l 0 0).2.2 = 0) : Seg l (0, 0) (entZ (tkc l 0 0 0).1 (tkc l 0 0 1).1 (tkc l 0 0 2).1 (cmdZ (enK l 0 0) (enN l 0 0 0).1 (enN l 0 0 1).1 (enN l 0 0 2).1 (enN l 0 0 3).1 (bytesZ [(enN l 0 0 4).1, (enN l 0 0 5).1, (enN l 0 0 6).1, (enN l 0 0 7).1, (enN l 0 0 8).1, (enN l 0 0 9).1, (enN l 0 0 10).1]) (bytesZ [(enN l 0 0 11).1, (enN l 0 0 12).1, (enN l 0 0 13).1, (enN l 0 0 14).1, (enN l 0 0 15).1]) (taskZ (enN l 0 0 16).1 (enN l 0 0 17).1 (enN l 0 0 18).1 (enN l 0 0 19).1 (enN l 0 0 20).1 (enL l 0 0) (enE l 0 0).1))) (enE l 0 0).2 := by
  have a1 := tkc_at l 0 0 (by omega) (by omega) 2
  have a2 := cmK_at l (tkc l 0 0 2).2.1 (tkc l 0 0 2).2.2 a1.1 a1.2
  have a3 := tkc_at l _ (cmK l (tkc l 0 0 2).2.1 (tkc l 0 0 2).2.2).2.2 a2.1 a2.2 15
  have s4 := rdT_was hb (cmN l (tkc l 0 0 2).2.1 (tkc l 0 0 2).2.2 15).2 a3.1 a3.2 h
  have s3 := tkc_was hb (s := (cmK l (tkc l 0 0 2).2.1 (tkc l 0 0 2).2.2).2) a2.1 a2.2 15 s4.1
  have s2 := upT_was hb (m := 9223372036854775807) (f := 4) (by omega) (s := (tkc l 0 0 2).2) a1.1 a1.2 s3.1
  have s1 := tkc_was hb (s := (0, 0)) (by simp) (by simp) 2 s2.1
  have kb := cmK_bd l (tkc l 0 0 2).2.1 (tkc l 0 0 2).2.2 hb
  have := s1.trans (s2.trans (s3.trans s4))
  have kb' : 0 ≤ enK l 0 0 := kb.1
  rw [entZ_eq _ _ _ _ _ _ _ _ _ _ _ _ _ _ _ _ _ _ _ _ _ _ _ _ _ _ _ kb']
  have e : t7Z (rdT l (cmN l (tkc l 0 0 2).2.1 (tkc l 0 0 2).2.2 15).2.1 (cmN l (tkc l 0 0 2).2.1 (tkc l 0 0 2).2.2 15).2.2).1 = taskZ (enN l 0 0 16).1 (enN l 0 0 17).1 (enN l 0 0 18).1 (enN l 0 0 19).1 (enN l 0 0 20).1 (enL l 0 0) (enE l 0 0).1 := by
    unfold t7Z rdT
    simp only [cmN_add]
    rfl
  rw [e] at this
  exact this
theorem an_was {l : List Int} (hb : BB l) (h : (anE l 0 0).2 = 0) : Seg l (0, 0) (bytesZ [(tkc l 0 0 0).1, (tkc l 0 0 1).1, (tkc l 0 0 2).1] ++ (listZ (liL (tkI l) l (tkc l 0 0 2).2.1 (tkc l 0 0 2).2.2) ++ listE leZ (liL (rdL l) l (anB l 0 0).1 (anB l 0 0).2))) (anE l 0 0) := by
  have a1 := tkc_at l 0 0 (by omega) (by omega) 2
  have a2 := anB_at l 0 0 (by omega) (by omega)
  have s3 := (li_was hb (rdL_was hb) (fun A E h0 h1 => rdL_at l A E h0 h1) (s := anB l 0 0) a2.1 a2.2 h).1
  have s2 := taL_was hb (s := (tkc l 0 0 2).2) a1.1 a1.2 s3.1
  have s1 := tkc_was hb (s := (0, 0)) (by simp) (by simp) 2 s2.1
  exact s1.trans (s2.trans s3)
theorem st_was {l : List Int} (hb : BB l) (h : (sHB l 0 0).2 = 0) : Seg l (0, 0) (bytesZ [(tkc l 0 0 0).1, (tkc l 0 0 1).1, (tkc l 0 0 2).1] ++ (listE q7Z (liL (rdQ l) l (s0B l 0 0).1 (s0B l 0 0).2) ++ (listE n5Z (liL (rdN l) l (sQB l 0 0).1 (sQB l 0 0).2) ++ (listE t7Z (liL (rdT l) l (sNB l 0 0).1 (sNB l 0 0).2) ++ (listE leZ (liL (rdL l) l (sTB l 0 0).1 (sTB l 0 0).2) ++ listE h2Z (liL (rdH l) l (sLB l 0 0).1 (sLB l 0 0).2)))))) (sHB l 0 0) := by
  have a0 := s0B_at l 0 0 (by omega) (by omega)
  have a1 := sQB_at l 0 0 (by omega) (by omega)
  have a2 := sNB_at l 0 0 (by omega) (by omega)
  have a3 := sTB_at l 0 0 (by omega) (by omega)
  have a4 := sLB_at l 0 0 (by omega) (by omega)
  have s5 := (li_was hb (rdH_was hb) (fun A E h0 h1 => rdH_at l A E h0 h1) (s := sLB l 0 0) a4.1 a4.2 h).1
  have s4 := (li_was hb (rdL_was hb) (fun A E h0 h1 => rdL_at l A E h0 h1) (s := sTB l 0 0) a3.1 a3.2 s5.1).1
  have s3 := (li_was hb (rdT_was hb) (fun A E h0 h1 => rdT_at l A E h0 h1) (s := sNB l 0 0) a2.1 a2.2 s4.1).1
  have s2 := (li_was hb (rdN_was hb) (fun A E h0 h1 => rdN_at l A E h0 h1) (s := sQB l 0 0) a1.1 a1.2 s3.1).1
  have s1 := (li_was hb (rdQ_was hb) (fun A E h0 h1 => rdQ_at l A E h0 h1) (s := s0B l 0 0) a0.1 a0.2 s2.1).1
  have s0 := tkc_was hb (s := (0, 0)) (by simp) (by simp) 2 s1.1
  exact s0.trans (s1.trans (s2.trans (s3.trans (s4.trans s5))))
set_option maxRecDepth 100000 in
set_option maxHeartbeats 2000000 in
theorem back_ent {l : List Int} {b n : Nat} {W : World} {cs : Array Value} (hb : BB l) (hn : l.length = n) (h : EnO l 0 0 b W cs) (he : (endT n (enE l 0 0).2.1 (enE l 0 0).2.2).2 = 0) :
    Calls Try.prog 12 #[.agg cs] W fun e w' => ∃ v, e = .returned (.tuple #[v, .int .i64 0]) ∧ Own W.heap.size w' v n l ∧ Below W.heap.size W w' := by
  obtain ⟨v, rfl, o⟩ := h
  obtain ⟨va, vc, rfl⟩ := o.form
  have hl := end_was hn he (fun hE => en_was hb hE)
  have hk := cmK_bd l (tkc l 0 0 2).2.1 (tkc l 0 0 2).2.2 hb
  have hc : enC l 0 0 ≤ 1024 := liC_up hb
  have ez : encE (enC l 0 0) (enK l 0 0) = 0 := by
    have hk' : 0 ≤ enK l 0 0 := hk.1
    unfold encE
    rw [if_neg (by omega), if_neg (by omega)]
  have ik : I64 (enK l 0 0) := by
    have h1 : 0 ≤ enK l 0 0 := hk.1
    have h2 : enK l 0 0 ≤ 9223372036854775807 := hk.2
    unfold I64; omega
  have T := fun k => tkc_i64 hb 0 0 k
  have M : ∀ k, I64 (enN l 0 0 k).1 := fun k => tkc_i64 hb _ _ k
  refine (encentry_any _ _ _ _ _ _ _ _ _ _ _ _ _ _ _ _ _ _ _ _ _ _ _ _ _ va (enC l 0 0) vc (enL l 0 0) _ W (T 0) (T 1) (T 2) ik (M 0) (M 1) (M 2) (M 3) (M 4) (M 5) (M 6) (M 7) (M 8) (M 9) (M 10) (M 11) (M 12) (M 13) (M 14) (M 15) (M 16) (M 17) (M 18) (M 19) (M 20) (tkI_i64 hb _ _) (o.holds encN_len) (liL_i64 hb _ _)).mono ?_
  rintro e w' ⟨v, rfl, h1, h2, h3⟩
  have ho : Own W.heap.size w' v (entZ (tkc l 0 0 0).1 (tkc l 0 0 1).1 (tkc l 0 0 2).1 (cmdZ (enK l 0 0) (enN l 0 0 0).1 (enN l 0 0 1).1 (enN l 0 0 2).1 (enN l 0 0 3).1 (bytesZ [(enN l 0 0 4).1, (enN l 0 0 5).1, (enN l 0 0 6).1, (enN l 0 0 7).1, (enN l 0 0 8).1, (enN l 0 0 9).1, (enN l 0 0 10).1]) (bytesZ [(enN l 0 0 11).1, (enN l 0 0 12).1, (enN l 0 0 13).1, (enN l 0 0 14).1, (enN l 0 0 15).1]) (taskZ (enN l 0 0 16).1 (enN l 0 0 17).1 (enN l 0 0 18).1 (enN l 0 0 19).1 (enN l 0 0 20).1 (enL l 0 0) (enE l 0 0).1))).length (entZ (tkc l 0 0 0).1 (tkc l 0 0 1).1 (tkc l 0 0 2).1 (cmdZ (enK l 0 0) (enN l 0 0 0).1 (enN l 0 0 1).1 (enN l 0 0 2).1 (enN l 0 0 3).1 (bytesZ [(enN l 0 0 4).1, (enN l 0 0 5).1, (enN l 0 0 6).1, (enN l 0 0 7).1, (enN l 0 0 8).1, (enN l 0 0 9).1, (enN l 0 0 10).1]) (bytesZ [(enN l 0 0 11).1, (enN l 0 0 12).1, (enN l 0 0 13).1, (enN l 0 0 14).1, (enN l 0 0 15).1]) (taskZ (enN l 0 0 16).1 (enN l 0 0 17).1 (enN l 0 0 18).1 (enN l 0 0 19).1 (enN l 0 0 20).1 (enL l 0 0) (enE l 0 0).1))) := h1 ez
  rw [ez]
  rw [← hl] at ho
  exact ⟨v, rfl, hn ▸ ho, h3⟩
set_option maxRecDepth 100000 in
set_option maxHeartbeats 2000000 in
theorem back_ans {l : List Int} {b n : Nat} {W : World} {cs : Array Value} (hb : BB l) (hn : l.length = n) (h : AnO l 0 0 b W cs) (he : (endT n (anE l 0 0).1 (anE l 0 0).2).2 = 0) :
    Calls Try.prog 16 #[.agg cs] W fun e w' => ∃ v, e = .returned (.tuple #[v, .int .i64 0]) ∧ Own W.heap.size w' v n l ∧ Below W.heap.size W w' := by
  obtain ⟨vI, vL, yL, rfl, hI, ⟨hL, sL, mL⟩⟩ := h
  obtain ⟨a1, c1, rfl⟩ := hI.form
  obtain ⟨a2, c2, rfl⟩ := hL.form
  have hl := end_was hn he (fun hE => an_was hb hE)
  have hc : liC (tkI l) l (tkc l 0 0 2).2.1 (tkc l 0 0 2).2.2 ≤ 1024 := liC_up hb
  have hlc : yL.length = liC (rdL l) l (anB l 0 0).1 (anB l 0 0).2 := hL.len
  have hld : yL.length ≤ 1024 := by rw [hlc]; exact liC_up hb
  have ez : (decide (1024 < liC (tkI l) l (tkc l 0 0 2).2.1 (tkc l 0 0 2).2.2) || flW leL yL) = false := by
    rw [flW_le hld (fun x hx => (le_sl' hb sL x hx).1)]
    simp; omega
  have T := fun k => tkc_i64 hb 0 0 k
  refine (encanswer_any _ _ _ a1 _ c1 _ a2 _ c2 yL W (T 0) (T 1) (T 2) (hI.holds encN_len) (liL_i64 hb _ _) (hL.holds Le.cs_len) (fun x hx => ⟨(mL x hx).holds encN_len, (le_sl' hb sL x hx).2⟩)).mono ?_
  rintro e w' ⟨v, rfl, h1, h2, h3⟩
  have ho := h1 ez
  rw [ez]
  rw [listW_L hb hlc sL, ← List.append_assoc, ← bytesZ_app] at ho
  have hl' : l = bytesZ ([(tkc l 0 0 0).1] ++ [(tkc l 0 0 1).1, (tkc l 0 0 2).1]) ++ (listZ (liL (tkI l) l (tkc l 0 0 2).2.1 (tkc l 0 0 2).2.2) ++ listE leZ (liL (rdL l) l (anB l 0 0).1 (anB l 0 0).2)) := hl
  rw [← hl'] at ho
  exact ⟨v, rfl, hn ▸ ho, h3⟩
set_option maxRecDepth 100000 in
set_option maxHeartbeats 2000000 in
theorem back_sta {l : List Int} {b n : Nat} {W : World} {cs : Array Value} (hb : BB l) (hn : l.length = n) (h : StO l 0 0 b W cs) (he : (endT n (sHB l 0 0).1 (sHB l 0 0).2).2 = 0) :
    Calls Try.prog 19 #[.agg cs] W fun e w' => ∃ v, e = .returned (.tuple #[v, .int .i64 0]) ∧ Own W.heap.size w' v n l ∧ Below W.heap.size W w' := by
  obtain ⟨vQ, vN, vT, vL, vH, yT, yL, rfl, hQ, hN, ⟨hT, sT, mT⟩, ⟨hL, sL, mL⟩, hH⟩ := h
  obtain ⟨a1, c1, rfl⟩ := hQ.form
  obtain ⟨a2, c2, rfl⟩ := hN.form
  obtain ⟨a3, c3, rfl⟩ := hT.form
  obtain ⟨a4, c4, rfl⟩ := hL.form
  obtain ⟨a5, c5, rfl⟩ := hH.form
  have hl := end_was hn he (fun hE => st_was hb hE)
  have lq : (liL (rdQ l) l (s0B l 0 0).1 (s0B l 0 0).2).length ≤ 1024 := by rw [liL_len]; exact liC_up hb
  have ln : (liL (rdN l) l (sQB l 0 0).1 (sQB l 0 0).2).length ≤ 1024 := by rw [liL_len]; exact liC_up hb
  have lh : (liL (rdH l) l (sLB l 0 0).1 (sLB l 0 0).2).length ≤ 1024 := by rw [liL_len]; exact liC_up hb
  have lt : yT.length ≤ 1024 := by rw [hT.len]; exact liC_up hb
  have ll : yL.length ≤ 1024 := by rw [hL.len]; exact liC_up hb
  have ez : (flW (fun _ => false) (liL (rdQ l) l (s0B l 0 0).1 (s0B l 0 0).2) || (flW (fun _ => false) (liL (rdN l) l (sQB l 0 0).1 (sQB l 0 0).2) || (flW t7L yT || (flW leL yL || flW (fun _ => false) (liL (rdH l) l (sLB l 0 0).1 (sLB l 0 0).2))))) = false := by
    rw [flW_none lq, flW_none ln, flW_none lh, flW_ta lt (fun x hx => (ta_sl' hb sT x hx).1), flW_le ll (fun x hx => (le_sl' hb sL x hx).1)]
    rfl
  have T := fun k => tkc_i64 hb 0 0 k
  have KQ : ∀ x ∈ liL (rdQ l) l (s0B l 0 0).1 (s0B l 0 0).2, x.ok := fun x hx => by
    unfold liL lsL at hx
    obtain ⟨k, _, rfl⟩ := List.mem_map.1 hx
    exact ⟨tkc_i64 hb _ _ 0, tkc_i64 hb _ _ 1, tkc_i64 hb _ _ 2, tkc_i64 hb _ _ 3, tkc_i64 hb _ _ 4, tkc_i64 hb _ _ 5, tkc_i64 hb _ _ 6⟩
  have KN : ∀ x ∈ liL (rdN l) l (sQB l 0 0).1 (sQB l 0 0).2, x.ok := fun x hx => by
    unfold liL lsL at hx
    obtain ⟨k, _, rfl⟩ := List.mem_map.1 hx
    exact ⟨tkc_i64 hb _ _ 0, tkc_i64 hb _ _ 1, tkc_i64 hb _ _ 2, tkc_i64 hb _ _ 3, tkc_i64 hb _ _ 4⟩
  have KH : ∀ x ∈ liL (rdH l) l (sLB l 0 0).1 (sLB l 0 0).2, x.ok := fun x hx => by
    unfold liL lsL at hx
    obtain ⟨k, _, rfl⟩ := List.mem_map.1 hx
    exact ⟨tkc_i64 hb _ _ 0, tkc_i64 hb _ _ 1⟩
  refine (encstate_any _ _ _ a1 _ c1 _ a2 _ c2 _ a3 _ c3 yT a4 _ c4 yL a5 _ c5 _ W (T 0) (T 1) (T 2) (hQ.holds Q7.cs_len) KQ (hN.holds N5.cs_len) KN (hT.holds T7.cs_len) (fun x hx => ⟨(mT x hx).holds encN_len, (ta_sl' hb sT x hx).2⟩) (hL.holds Le.cs_len) (fun x hx => ⟨(mL x hx).holds encN_len, (le_sl' hb sL x hx).2⟩) (hH.holds H2.cs_len) KH).mono ?_
  rintro e w' ⟨v, rfl, h1, h2, h3⟩
  have ho := h1 ez
  rw [ez]
  rw [listW_T hb hT.len sT, listW_L hb hL.len sL, listW_self lq, listW_self ln, listW_self lh] at ho
  rw [← hl] at ho
  exact ⟨v, rfl, hn ▸ ho, h3⟩
end Go.Proofs.Ythkbddnkcljjpaa

namespace Go.Proofs.Ythkbddnkcljjpaa
open Go.RowKit Go.Deep Go.Maps
set_option linter.unusedVariables false
set_option linter.unusedSimpArgs false
/-- A lease, a task without the place of its list. -/
def nL (x : Le) : Le := ⟨x.ta, x.qu, x.no, none, x.co.length, 0, x.me, x.si, x.un, x.st, x.co⟩
def nT (x : T7) : T7 := ⟨x.t1, x.t2, x.c, x.m, x.wk, none, x.tk.length, 0, x.st, x.tk⟩
theorem rdQ_reads {L F : List Int} (hl : L <+: F) {x : Q7} (hx : x.ok) : ReadsAt L F (rdQ L) q7Z x := fun pre suf s hF h => by
  have T := tkc_st (l := L) (F := F) (pre := pre) (xs := [x.a, x.b, x.c, x.d, x.e, x.f, x.g]) (suf := suf) (A := s.1) (E := s.2) hF hl (by
    intro y hy
    simp only [List.mem_cons, List.not_mem_nil, or_false] at hy
    rcases hy with rfl | rfl | rfl | rfl | rfl | rfl | rfl
    · exact hx.1
    · exact hx.2.1
    · exact hx.2.2.1
    · exact hx.2.2.2.1
    · exact hx.2.2.2.2.1
    · exact hx.2.2.2.2.2.1
    · exact hx.2.2.2.2.2.2) h
  have e : bytesZ (([x.a, x.b, x.c, x.d, x.e, x.f, x.g] : List Int).take (6 + 1)) = q7Z x := rfl
  have T6 := T 6 (by simp)
  rw [e] at T6
  refine ⟨T6.1, fun hz => ?_⟩
  have v0 : (tkc L s.1 s.2 0).1 = x.a := (T 0 (by simp)).2 (tkc_keep 6 0 (by omega) hz)
  have v1 : (tkc L s.1 s.2 1).1 = x.b := (T 1 (by simp)).2 (tkc_keep 6 1 (by omega) hz)
  have v2 : (tkc L s.1 s.2 2).1 = x.c := (T 2 (by simp)).2 (tkc_keep 6 2 (by omega) hz)
  have v3 : (tkc L s.1 s.2 3).1 = x.d := (T 3 (by simp)).2 (tkc_keep 6 3 (by omega) hz)
  have v4 : (tkc L s.1 s.2 4).1 = x.e := (T 4 (by simp)).2 (tkc_keep 6 4 (by omega) hz)
  have v5 : (tkc L s.1 s.2 5).1 = x.f := (T 5 (by simp)).2 (tkc_keep 6 5 (by omega) hz)
  have v6 : (tkc L s.1 s.2 6).1 = x.g := (T 6 (by simp)).2 (tkc_keep 6 6 (by omega) hz)
  show (⟨(tkc L s.1 s.2 0).1, (tkc L s.1 s.2 1).1, (tkc L s.1 s.2 2).1, (tkc L s.1 s.2 3).1, (tkc L s.1 s.2 4).1, (tkc L s.1 s.2 5).1, (tkc L s.1 s.2 6).1⟩ : Q7) = x
  rw [v0, v1, v2, v3, v4, v5, v6]
theorem rdN_reads {L F : List Int} (hl : L <+: F) {x : N5} (hx : x.ok) : ReadsAt L F (rdN L) n5Z x := fun pre suf s hF h => by
  have T := tkc_st (l := L) (F := F) (pre := pre) (xs := [x.a, x.b, x.c, x.d, x.e]) (suf := suf) (A := s.1) (E := s.2) hF hl (by
    intro y hy
    simp only [List.mem_cons, List.not_mem_nil, or_false] at hy
    rcases hy with rfl | rfl | rfl | rfl | rfl
    · exact hx.1
    · exact hx.2.1
    · exact hx.2.2.1
    · exact hx.2.2.2.1
    · exact hx.2.2.2.2) h
  have e : bytesZ (([x.a, x.b, x.c, x.d, x.e] : List Int).take (4 + 1)) = n5Z x := rfl
  have T4 := T 4 (by simp)
  rw [e] at T4
  refine ⟨T4.1, fun hz => ?_⟩
  have v0 : (tkc L s.1 s.2 0).1 = x.a := (T 0 (by simp)).2 (tkc_keep 4 0 (by omega) hz)
  have v1 : (tkc L s.1 s.2 1).1 = x.b := (T 1 (by simp)).2 (tkc_keep 4 1 (by omega) hz)
  have v2 : (tkc L s.1 s.2 2).1 = x.c := (T 2 (by simp)).2 (tkc_keep 4 2 (by omega) hz)
  have v3 : (tkc L s.1 s.2 3).1 = x.d := (T 3 (by simp)).2 (tkc_keep 4 3 (by omega) hz)
  have v4 : (tkc L s.1 s.2 4).1 = x.e := (T 4 (by simp)).2 (tkc_keep 4 4 (by omega) hz)
  show (⟨(tkc L s.1 s.2 0).1, (tkc L s.1 s.2 1).1, (tkc L s.1 s.2 2).1, (tkc L s.1 s.2 3).1, (tkc L s.1 s.2 4).1⟩ : N5) = x
  rw [v0, v1, v2, v3, v4]
theorem rdH_reads {L F : List Int} (hl : L <+: F) {x : H2} (hx : x.ok) : ReadsAt L F (rdH L) h2Z x := fun pre suf s hF h => by
  have T := tkc_st (l := L) (F := F) (pre := pre) (xs := [x.a, x.b]) (suf := suf) (A := s.1) (E := s.2) hF hl (by
    intro y hy
    simp only [List.mem_cons, List.not_mem_nil, or_false] at hy
    rcases hy with rfl | rfl
    · exact hx.1
    · exact hx.2) h
  have e : bytesZ (([x.a, x.b] : List Int).take (1 + 1)) = h2Z x := rfl
  have T1 := T 1 (by simp)
  rw [e] at T1
  refine ⟨T1.1, fun hz => ?_⟩
  have v0 : (tkc L s.1 s.2 0).1 = x.a := (T 0 (by simp)).2 (tkc_keep 1 0 (by omega) hz)
  have v1 : (tkc L s.1 s.2 1).1 = x.b := (T 1 (by simp)).2 (tkc_keep 1 1 (by omega) hz)
  show (⟨(tkc L s.1 s.2 0).1, (tkc L s.1 s.2 1).1⟩ : H2) = x
  rw [v0, v1]
theorem rdT_reads {L F : List Int} (hl : L <+: F) {x : T7} (hx : x.ok) (hn : x.tk.length ≤ 1024) : ReadsAt L F (rdT L) t7Z (nT x) := fun pre suf s hF h => by
  have T := ta_st (l := L) (F := F) (pre := pre) (suf := suf) (A := s.1) (E := s.2) hF hl hx.1.1 hx.1.2.1 hx.1.2.2.1 hx.1.2.2.2.1 hx.1.2.2.2.2.1 hx.1.2.2.2.2.2 hx.2 hn h
  refine ⟨T.1, fun hz => ?_⟩
  obtain ⟨⟨v0, v1, v2, v3, v4⟩, v5, v6, _⟩ := T.2 hz
  have v7 : taC L s.1 s.2 = x.tk.length := by
    have := liL_len (tkI L) L (tkc L s.1 s.2 4).2.1 (tkc L s.1 s.2 4).2.2
    have e : (taL L s.1 s.2).length = taC L s.1 s.2 := this
    rw [v5] at e
    exact e.symm
  show (⟨(tkc L s.1 s.2 0).1, (tkc L s.1 s.2 1).1, (tkc L s.1 s.2 2).1, (tkc L s.1 s.2 3).1, (tkc L s.1 s.2 4).1, none, taC L s.1 s.2, 0, (taE L s.1 s.2).1, taL L s.1 s.2⟩ : T7) = nT x
  rw [v0, v1, v2, v3, v4, v5, v6, v7]
  rfl
theorem rdL_reads {L F : List Int} (hl : L <+: F) {x : Le} (hx : x.okA) (hn : x.co.length ≤ 1024) : ReadsAt L F (rdL L) leZ (nL x) := fun pre suf s hF h => by
  have hF1 : F = pre ++ (bytesZ [x.ta, x.qu, x.no] ++ (listZ x.co ++ (bytesZ [x.me, x.si, x.un] ++ (flagZ x.st ++ suf)))) := by
    rw [hF]
    show pre ++ (leaseZ _ _ _ _ _ _ _ _ ++ suf) = _
    unfold leaseZ nL
    simp only [List.append_assoc]
  have T := tkc_st (l := L) (F := F) (pre := pre) (xs := [x.ta, x.qu, x.no]) (suf := listZ x.co ++ (bytesZ [x.me, x.si, x.un] ++ (flagZ x.st ++ suf))) (A := s.1) (E := s.2) hF1 hl (by
    intro y hy
    simp only [List.mem_cons, List.not_mem_nil, or_false] at hy
    rcases hy with rfl | rfl | rfl
    · exact hx.1.1
    · exact hx.1.2.1
    · exact hx.1.2.2.1) h
  have e2 : bytesZ (([x.ta, x.qu, x.no] : List Int).take (2 + 1)) = bytesZ [x.ta, x.qu, x.no] := rfl
  have T2 := T 2 (by simp)
  rw [e2] at T2
  have LI := li_st (l := L) (F := F) (pe := tkI L) (en := fun x => numB (zig x)) (xs := x.co) (s := (tkc L s.1 s.2 2).2) (pre := pre ++ bytesZ [x.ta, x.qu, x.no]) (suf := bytesZ [x.me, x.si, x.un] ++ (flagZ x.st ++ suf)) (by rw [hF1, ← listZ_eq hn]; simp only [List.append_assoc]) hl (fun y hy => int_reads hl (hx.2 y hy)) hn T2.1
  rw [← listZ_eq hn] at LI
  have N := tkc_st (l := L) (F := F) (pre := pre ++ bytesZ [x.ta, x.qu, x.no] ++ listZ x.co) (xs := [x.me, x.si, x.un]) (suf := flagZ x.st ++ suf) (A := (rlB L s.1 s.2).1) (E := (rlB L s.1 s.2).2) (by rw [hF1]; simp only [List.append_assoc]) hl (by
    intro y hy
    simp only [List.mem_cons, List.not_mem_nil, or_false] at hy
    rcases hy with rfl | rfl | rfl
    · exact hx.1.2.2.2.1
    · exact hx.1.2.2.2.2.1
    · exact hx.1.2.2.2.2.2) LI.1
  have e3 : bytesZ (([x.me, x.si, x.un] : List Int).take (2 + 1)) = bytesZ [x.me, x.si, x.un] := rfl
  have N2 := N 2 (by simp)
  rw [e3] at N2
  have U := upT_st (l := L) (F := F) (x := if x.st then 1 else 0) (m := 1) (f := 4) (s := (rlN L s.1 s.2 2).2) (pre := pre ++ bytesZ [x.ta, x.qu, x.no] ++ listZ x.co ++ bytesZ [x.me, x.si, x.un]) (suf := suf) (by rw [hF1]; unfold flagZ; simp only [List.append_assoc]) hl (by split <;> omega) (by split <;> omega) (by omega) N2.1
  have e4 : pre ++ bytesZ [x.ta, x.qu, x.no] ++ listZ x.co ++ bytesZ [x.me, x.si, x.un] ++ numB (if x.st then 1 else 0) = pre ++ leZ (nL x) := by
    show _ = pre ++ leaseZ _ _ _ _ _ _ _ _
    unfold leaseZ nL flagZ
    simp only [List.append_assoc]
  rw [e4] at U
  refine ⟨U.1, fun hz => ?_⟩
  have k3 : (rlN L s.1 s.2 2).2.2 = 0 := upT_keep (by omega) hz
  have k2 : (rlB L s.1 s.2).2 = 0 := tkI_keep (tkc_keep 2 0 (by omega) k3)
  have k1 : (tkc L s.1 s.2 2).2.2 = 0 := liF_keep (pe := tkI L) (fun _ _ h => tkI_keep h) k2
  have v0 := (T 0 (by simp)).2 (tkc_keep 2 0 (by omega) k1)
  have v1 := (T 1 (by simp)).2 (tkc_keep 2 1 (by omega) k1)
  have v2 := T2.2 k1
  have v3 : rlL L s.1 s.2 = x.co := LI.2 k2
  have v4 : (rlN L s.1 s.2 0).1 = x.me := (N 0 (by simp)).2 (tkc_keep 2 0 (by omega) k3)
  have v5 : (rlN L s.1 s.2 1).1 = x.si := (N 1 (by simp)).2 (tkc_keep 2 1 (by omega) k3)
  have v6 : (rlN L s.1 s.2 2).1 = x.un := N2.2 k3
  have v7 : (rlF L s.1 s.2).1 = if x.st then 1 else 0 := U.2.1 hz
  have v8 : rlC L s.1 s.2 = x.co.length := by
    have e : (rlL L s.1 s.2).length = rlC L s.1 s.2 := liL_len (tkI L) L (tkc L s.1 s.2 2).2.1 (tkc L s.1 s.2 2).2.2
    rw [v3] at e
    exact e.symm
  have v9 : ((if x.st then (1 : Int) else 0) == 1) = x.st := by cases x.st <;> rfl
  show (⟨(tkc L s.1 s.2 0).1, (tkc L s.1 s.2 1).1, (tkc L s.1 s.2 2).1, none, rlC L s.1 s.2, 0, (rlN L s.1 s.2 0).1, (rlN L s.1 s.2 1).1, (rlN L s.1 s.2 2).1, ((rlF L s.1 s.2).1 == 1), rlL L s.1 s.2⟩ : Le) = nL x
  rw [v0, v1, v2, v3, v4, v5, v6, v7, v8, v9]
  rfl
theorem listE_nL (ls : List Le) : listE leZ (ls.map nL) = listE leZ ls := by
  unfold listE
  rw [List.length_map, List.flatMap_map]
  rfl
theorem listE_nT (ts : List T7) : listE t7Z (ts.map nT) = listE t7Z ts := by
  unfold listE
  rw [List.length_map, List.flatMap_map]
  rfl
theorem le_n (x : Le) (h : x.co.length = x.sl) : LeSame (nL x) x := ⟨rfl, rfl, rfl, h, rfl, rfl, rfl, rfl, rfl⟩
theorem ta_n (x : T7) (h : x.tk.length = x.sl) : TaSame (nT x) x := ⟨rfl, rfl, rfl, rfl, rfl, h, rfl, rfl⟩
theorem flW_leN {ls : List Le} (h : flW leL ls = false) : ls.length ≤ 1024 ∧ ∀ x ∈ ls, x.sl ≤ 1024 := by
  unfold flW at h
  split at h
  · cases h
  · refine ⟨by omega, fun x hx => ?_⟩
    rw [List.any_eq_false] at h
    have := h x hx
    simp [leL] at this
    omega
theorem flW_taN {ls : List T7} (h : flW t7L ls = false) : ls.length ≤ 1024 ∧ ∀ x ∈ ls, x.sl ≤ 1024 := by
  unfold flW at h
  split at h
  · cases h
  · refine ⟨by omega, fun x hx => ?_⟩
    rw [List.any_eq_false] at h
    have := h x hx
    simp [t7L] at this
    omega
theorem flW_n {α : Type} {ls : List α} (h : flW (fun _ => false) ls = false) : ls.length ≤ 1024 := by
  unfold flW at h
  split at h
  · cases h
  · omega
theorem st_end {L : List Int} {s : Int × Int} {p : Nat} (h : StR L s p) (hp : p = L.length) : s = ((L.length : Int), 0) := by
  rcases h with ⟨h1, h2, _⟩ | ⟨_, _, h3⟩
  · exact Prod.ext (by rw [h2, hp]) h1
  · omega
theorem app3 (a b c : List Int) : [] ++ a ++ b ++ c = [] ++ (a ++ (b ++ (c ++ []))) := by simp only [List.append_assoc, List.append_nil, List.nil_append]
theorem app6 (a b c d e f : List Int) : [] ++ a ++ b ++ c ++ d ++ e ++ f = [] ++ (a ++ (b ++ (c ++ (d ++ (e ++ (f ++ [])))))) := by simp only [List.append_assoc, List.append_nil, List.nil_append]
/-- Elements that are read are alike to those that were written. -/
theorem le_alike {L : List Int} {A E : Int} {ls ys : List Le} (h : liL (rdL L) L A E = ls.map nL) (hs : ∀ x ∈ ls, x.co.length = x.sl) (hl : ys.length = liC (rdL L) L A E) (s : ∀ j (g : j < ys.length), LeSame (liV (rdL L) L A E j) ys[j]) : ys.length = ls.length ∧ ∀ j (g1 : j < ys.length) (g2 : j < ls.length), LeSame ys[j] ls[j] := by
  have e : (liL (rdL L) L A E).length = liC (rdL L) L A E := liL_len _ _ _ _
  have e2 : ys.length = ls.length := by rw [hl, ← e, h, List.length_map]
  refine ⟨e2, fun j g1 g2 => ?_⟩
  have h1 : (liL (rdL L) L A E)[j]'(by rw [e, ← hl]; exact g1) = liV (rdL L) L A E j := liL_at _ _ _ _ _
  have h2 : (liL (rdL L) L A E)[j]'(by rw [e, ← hl]; exact g1) = nL ls[j] := by simp only [h, List.getElem_map]
  have h3 := s j g1
  rw [← h1, h2] at h3
  exact le_join h3 (le_n _ (hs _ (List.getElem_mem g2)))
theorem ta_alike {L : List Int} {A E : Int} {ls ys : List T7} (h : liL (rdT L) L A E = ls.map nT) (hs : ∀ x ∈ ls, x.tk.length = x.sl) (hl : ys.length = liC (rdT L) L A E) (s : ∀ j (g : j < ys.length), TaSame (liV (rdT L) L A E j) ys[j]) : ys.length = ls.length ∧ ∀ j (g1 : j < ys.length) (g2 : j < ls.length), TaSame ys[j] ls[j] := by
  have e : (liL (rdT L) L A E).length = liC (rdT L) L A E := liL_len _ _ _ _
  have e2 : ys.length = ls.length := by rw [hl, ← e, h, List.length_map]
  refine ⟨e2, fun j g1 g2 => ?_⟩
  have h1 : (liL (rdT L) L A E)[j]'(by rw [e, ← hl]; exact g1) = liV (rdT L) L A E j := liL_at _ _ _ _ _
  have h2 : (liL (rdT L) L A E)[j]'(by rw [e, ← hl]; exact g1) = nT ls[j] := by simp only [h, List.getElem_map]
  have h3 := s j g1
  rw [← h1, h2] at h3
  exact ta_join h3 (ta_n _ (hs _ (List.getElem_mem g2)))
set_option maxRecDepth 100000 in
set_option maxHeartbeats 2000000 in
theorem fwd_ent {L : List Int} (gp cl sq kd ci ir bt si q1 q2 q3 q4 q5 q6 q7 n1 n2 n3 n4 n5 t1 t2 c m wk st : Int) (tk : List Int) (hL : L = entZ gp cl sq (cmdZ kd ci ir bt si (bytesZ [q1, q2, q3, q4, q5, q6, q7]) (bytesZ [n1, n2, n3, n4, n5]) (taskZ t1 t2 c m wk tk st))) (hE : encE tk.length kd = 0) (igp : I64 gp) (icl : I64 cl) (isq : I64 sq) (ikd : I64 kd) (ici : I64 ci) (iir : I64 ir) (ibt : I64 bt) (isi : I64 si) (iq1 : I64 q1) (iq2 : I64 q2) (iq3 : I64 q3) (iq4 : I64 q4) (iq5 : I64 q5) (iq6 : I64 q6) (iq7 : I64 q7) (in1 : I64 n1) (in2 : I64 n2) (in3 : I64 n3) (in4 : I64 n4) (in5 : I64 n5) (it1 : I64 t1) (it2 : I64 t2) (ic : I64 c) (im : I64 m) (iwk : I64 wk) (ist : I64 st) (hx : ∀ x ∈ tk, I64 x) :
    endT L.length (enE L 0 0).2.1 (enE L 0 0).2.2 = (0, 0) ∧ ∀ (b : Nat) (W : World) (cs : Array Value) (ta : Option Addr) (tn tc : Nat), EnO L 0 0 b W cs → HoldsN W ta tn tc tk → Calls Try.prog 15 #[.agg cs, .agg #[.int .i64 gp, .int .i64 cl, .int .i64 sq, .int .i64 kd, .int .i64 ci, .int .i64 ir, .int .i64 bt, .int .i64 si, .int .i64 q1, .int .i64 q2, .int .i64 q3, .int .i64 q4, .int .i64 q5, .int .i64 q6, .int .i64 q7, .int .i64 n1, .int .i64 n2, .int .i64 n3, .int .i64 n4, .int .i64 n5, .int .i64 t1, .int .i64 t2, .int .i64 c, .int .i64 m, .int .i64 wk, .slice ta tn tc, .int .i64 st]] W fun e w' => e = .returned (.bool true) ∧ Below W.heap.size W w' := by
  obtain ⟨a0, a1, a2, a3, a4, a5, a6, a7, a8, a9, a10, a11, a12, a13, a14, a15, a16, a17, a18, a19, a20, a21, a22, a23, a24, a25, a26, a27⟩ := ent_whole gp cl sq kd ci ir bt si q1 q2 q3 q4 q5 q6 q7 n1 n2 n3 n4 n5 t1 t2 c m wk st tk hL hE igp icl isq ikd ici iir ibt isi iq1 iq2 iq3 iq4 iq5 iq6 iq7 in1 in2 in3 in4 in5 it1 it2 ic im iwk ist hx
  refine ⟨by rw [a0]; unfold endT; simp, ?_⟩
  rintro b W cs ta tn tc ⟨v, rfl, o⟩ hh
  have hen := encE_zero hE
  have htn : tk.length = tn := hh.1
  have hc : enC L 0 0 = tn := by have := o.len; rw [a26] at this; omega
  rw [hc, a26] at o
  obtain ⟨va, vc, rfl⟩ := o.form
  unfold enV
  rw [a1, a2, a3, a4, a5, a6, a7, a8, a9, a10, a11, a12, a13, a14, a15, a16, a17, a18, a19, a20, a21, a22, a23, a24, a25, a27]
  exact sent_any gp cl sq kd ci ir bt si q1 q2 q3 q4 q5 q6 q7 n1 n2 n3 n4 n5 t1 t2 c m wk st va ta tn vc tc tk W (o.holds encN_len) hh (by omega)
set_option maxRecDepth 100000 in
set_option maxHeartbeats 2000000 in
theorem fwd_ans {L : List Int} (er at' an : Int) (co : List Int) (ls : List Le) (hL : L = bytesZ [er] ++ (bytesZ [at', an] ++ (listZ co ++ listW leZ ls))) (hE : (decide (1024 < co.length) || flW leL ls) = false) (ier : I64 er) (iat : I64 at') (ian : I64 an) (hcx : ∀ x ∈ co, I64 x) (hlk : ∀ x ∈ ls, x.okA) (hls : ∀ x ∈ ls, x.co.length = x.sl) :
    endT L.length (anE L 0 0).1 (anE L 0 0).2 = (0, 0) ∧ ∀ (b : Nat) (W : World) (cs : Array Value) (ca : Option Addr) (cn cc : Nat) (la : Option Addr) (ln lc : Nat), AnO L 0 0 b W cs → HoldsN W ca cn cc co → HoldsE 8 Le.cs W la ln lc ls → (∀ x ∈ ls, HoldsN W x.sa x.sl x.sc x.co) → Calls Try.prog 26 #[.agg cs, .agg #[.int .i64 er, .int .i64 at', .int .i64 an, .slice ca cn cc, .slice la ln lc]] W fun e w' => e = .returned (.bool true) ∧ Below W.heap.size W w' := by
  have hE2 : co.length ≤ 1024 ∧ flW leL ls = false := by
    rw [Bool.or_eq_false_iff] at hE
    exact ⟨by simpa using hE.1, hE.2⟩
  obtain ⟨nl, sl⟩ := flW_leN hE2.2
  have hLL : L = [] ++ (bytesZ [er, at', an] ++ (listE (fun x => numB (zig x)) co ++ (listE leZ (ls.map nL) ++ []))) := by
    rw [hL, listZ_eq hE2.1, listW_self nl, listE_nL, List.append_nil, List.nil_append, ← List.append_assoc, ← bytesZ_app]
    rfl
  have hp : L <+: L := ⟨[], by simp⟩
  have T := tkc_st (l := L) (F := L) (pre := []) (xs := [er, at', an]) (suf := listE (fun x => numB (zig x)) co ++ (listE leZ (ls.map nL) ++ [])) (A := 0) (E := 0) hLL hp (by
    intro y hy
    simp only [List.mem_cons, List.not_mem_nil, or_false] at hy
    rcases hy with rfl | rfl | rfl <;> assumption) (.inl ⟨rfl, rfl, by simp⟩)
  have e2 : bytesZ (([er, at', an] : List Int).take (2 + 1)) = bytesZ [er, at', an] := rfl
  have T2 := T 2 (by simp)
  rw [e2] at T2
  have LI := li_st (l := L) (F := L) (pe := tkI L) (en := fun x => numB (zig x)) (xs := co) (s := (tkc L 0 0 2).2) (pre := [] ++ bytesZ [er, at', an]) (suf := listE leZ (ls.map nL) ++ []) (by rw [List.append_assoc]; exact hLL) hp (fun y hy => int_reads hp (hcx y hy)) hE2.1 T2.1
  have LE := li_st (l := L) (F := L) (pe := rdL L) (en := leZ) (xs := ls.map nL) (s := anB L 0 0) (pre := [] ++ bytesZ [er, at', an] ++ listE (fun x => numB (zig x)) co) (suf := []) (by rw [List.append_assoc, List.append_assoc]; exact hLL) hp (fun y hy => by
    obtain ⟨x, hx, rfl⟩ := List.mem_map.1 hy
    exact rdL_reads hp (hlk x hx) (by have := sl x hx; have := hls x hx; omega)) (by simpa using nl) LI.1
  have e9 : [] ++ bytesZ [er, at', an] ++ listE (fun x => numB (zig x)) co ++ listE leZ (ls.map nL) = L := (app3 _ _ _).trans hLL.symm
  have z3 := st_end LE.1 (congrArg List.length e9)
  have eB : anB L 0 0 = liF (tkI L) L (tkc L 0 0 2).2.1 (tkc L 0 0 2).2.2 := rfl
  have z2 : (anB L 0 0).2 = 0 := liF_err (pe := rdL L) (l := L) (A := (anB L 0 0).1) (E := (anB L 0 0).2) (by rw [z3])
  rw [eB] at z2
  have z1 : (tkc L 0 0 2).2.2 = 0 := liF_err (pe := tkI L) (l := L) (A := (tkc L 0 0 2).2.1) (E := (tkc L 0 0 2).2.2) z2
  have v0 := (T 0 (by simp)).2 (tkc_keep 2 0 (by omega) z1)
  have v1 := (T 1 (by simp)).2 (tkc_keep 2 1 (by omega) z1)
  have v2 := T2.2 z1
  have v3 := LI.2 z2
  have v4 := LE.2 (by rw [z3])
  have z3' : anE L 0 0 = ((L.length : Int), 0) := z3
  refine ⟨by rw [z3']; unfold endT; simp, ?_⟩
  rintro b W cs ca cn cc la ln lc ⟨vI, vL, yL, rfl, hI, ⟨hLo, sL, mL⟩⟩ hco hle hla
  have hcn : co.length = cn := hco.1
  have c1 : liC (tkI L) L (tkc L 0 0 2).2.1 (tkc L 0 0 2).2.2 = cn := by rw [← liL_len, v3]; exact hcn
  rw [c1, v3] at hI
  obtain ⟨len, alike⟩ := le_alike v4 hls hLo.len sL
  have hln : ls.length = ln := hle.1
  have c2 : liC (rdL L) L (anB L 0 0).1 (anB L 0 0).2 = ln := by rw [← hLo.len, len]; exact hln
  rw [c2] at hLo
  obtain ⟨a1, d1, rfl⟩ := hI.form
  obtain ⟨a2, d2, rfl⟩ := hLo.form
  rw [v0, v1, v2]
  have hb : ∀ x ∈ yL, x.sl ≤ 140737488355328 := fun x hx => by
    obtain ⟨j, g, rfl⟩ := List.getElem_of_mem hx
    have g2 : j < ls.length := by omega
    have := (alike j g g2).2.2.2.1
    have := sl _ (List.getElem_mem g2)
    omega
  exact sanswer_any er at' an a1 ca cn d1 cc co a2 la ln d2 lc yL ls W (hI.holds encN_len) hco (by omega) (hLo.holds Le.cs_len) hle (fun x hx => (mL x hx).holds encN_len) hla alike hb
set_option maxRecDepth 100000 in
set_option maxHeartbeats 2000000 in
theorem fwd_sta {L : List Int} (lo pa no : Int) (qs : List Q7) (ns : List N5) (ts : List T7) (ls : List Le) (hs : List H2) (hL : L = bytesZ [lo, pa, no] ++ (listW q7Z qs ++ (listW n5Z ns ++ (listW t7Z ts ++ (listW leZ ls ++ listW h2Z hs))))) (hE : (flW (fun _ => false) qs || (flW (fun _ => false) ns || (flW t7L ts || (flW leL ls || flW (fun _ => false) hs)))) = false) (ilo : I64 lo) (ipa : I64 pa) (ino : I64 no) (kq : ∀ x ∈ qs, x.ok) (kn : ∀ x ∈ ns, x.ok) (kt : ∀ x ∈ ts, x.ok) (hts : ∀ x ∈ ts, x.tk.length = x.sl) (kl : ∀ x ∈ ls, x.okA) (hls : ∀ x ∈ ls, x.co.length = x.sl) (kh : ∀ x ∈ hs, x.ok) :
    endT L.length (sHB L 0 0).1 (sHB L 0 0).2 = (0, 0) ∧ ∀ (b : Nat) (W : World) (cs : Array Value) (qa : Option Addr) (qn qc : Nat) (na : Option Addr) (nn nc : Nat) (ta : Option Addr) (tn tc : Nat) (la : Option Addr) (ln lc : Nat) (ha : Option Addr) (hn hc : Nat), StO L 0 0 b W cs → HoldsE 7 Q7.cs W qa qn qc qs → HoldsE 5 N5.cs W na nn nc ns → HoldsE 7 T7.cs W ta tn tc ts → (∀ x ∈ ts, HoldsN W x.sa x.sl x.sc x.tk) → HoldsE 8 Le.cs W la ln lc ls → (∀ x ∈ ls, HoldsN W x.sa x.sl x.sc x.co) → HoldsE 2 H2.cs W ha hn hc hs → Calls Try.prog 21 #[.agg cs, .agg #[.int .i64 lo, .int .i64 pa, .int .i64 no, .slice qa qn qc, .slice na nn nc, .slice ta tn tc, .slice la ln lc, .slice ha hn hc]] W fun e w' => e = .returned (.bool true) ∧ Below W.heap.size W w' := by
  simp only [Bool.or_eq_false_iff] at hE
  obtain ⟨f1, f2, f3, f4, f5⟩ := hE
  have nq := flW_n f1
  have nn' := flW_n f2
  have nh := flW_n f5
  obtain ⟨nt, st⟩ := flW_taN f3
  obtain ⟨nl, sl⟩ := flW_leN f4
  have hLL : L = [] ++ (bytesZ [lo, pa, no] ++ (listE q7Z qs ++ (listE n5Z ns ++ (listE t7Z (ts.map nT) ++ (listE leZ (ls.map nL) ++ (listE h2Z hs ++ [])))))) := by
    rw [hL, listW_self nq, listW_self nn', listW_self nt, listW_self nl, listW_self nh, listE_nL, listE_nT, List.append_nil, List.nil_append]
  have hp : L <+: L := ⟨[], by simp⟩
  have T := tkc_st (l := L) (F := L) (pre := []) (xs := [lo, pa, no]) (suf := listE q7Z qs ++ (listE n5Z ns ++ (listE t7Z (ts.map nT) ++ (listE leZ (ls.map nL) ++ (listE h2Z hs ++ []))))) (A := 0) (E := 0) hLL hp (by
    intro y hy
    simp only [List.mem_cons, List.not_mem_nil, or_false] at hy
    rcases hy with rfl | rfl | rfl <;> assumption) (.inl ⟨rfl, rfl, by simp⟩)
  have e2 : bytesZ (([lo, pa, no] : List Int).take (2 + 1)) = bytesZ [lo, pa, no] := rfl
  have T2 := T 2 (by simp)
  rw [e2] at T2
  have I1 := li_st (l := L) (F := L) (pe := rdQ L) (en := q7Z) (xs := qs) (s := s0B L 0 0) (pre := [] ++ bytesZ [lo, pa, no]) (suf := listE n5Z ns ++ (listE t7Z (ts.map nT) ++ (listE leZ (ls.map nL) ++ (listE h2Z hs ++ [])))) (by simp only [List.append_assoc]; exact hLL) hp (fun y hy => rdQ_reads hp (kq y hy)) nq T2.1
  have I2 := li_st (l := L) (F := L) (pe := rdN L) (en := n5Z) (xs := ns) (s := sQB L 0 0) (pre := [] ++ bytesZ [lo, pa, no] ++ listE q7Z qs) (suf := listE t7Z (ts.map nT) ++ (listE leZ (ls.map nL) ++ (listE h2Z hs ++ []))) (by simp only [List.append_assoc]; exact hLL) hp (fun y hy => rdN_reads hp (kn y hy)) nn' I1.1
  have I3 := li_st (l := L) (F := L) (pe := rdT L) (en := t7Z) (xs := ts.map nT) (s := sNB L 0 0) (pre := [] ++ bytesZ [lo, pa, no] ++ listE q7Z qs ++ listE n5Z ns) (suf := listE leZ (ls.map nL) ++ (listE h2Z hs ++ [])) (by simp only [List.append_assoc]; exact hLL) hp (fun y hy => by
    obtain ⟨x, hx, rfl⟩ := List.mem_map.1 hy
    exact rdT_reads hp (kt x hx) (by have := st x hx; have := hts x hx; omega)) (by simpa using nt) I2.1
  have I4 := li_st (l := L) (F := L) (pe := rdL L) (en := leZ) (xs := ls.map nL) (s := sTB L 0 0) (pre := [] ++ bytesZ [lo, pa, no] ++ listE q7Z qs ++ listE n5Z ns ++ listE t7Z (ts.map nT)) (suf := listE h2Z hs ++ []) (by simp only [List.append_assoc]; exact hLL) hp (fun y hy => by
    obtain ⟨x, hx, rfl⟩ := List.mem_map.1 hy
    exact rdL_reads hp (kl x hx) (by have := sl x hx; have := hls x hx; omega)) (by simpa using nl) I3.1
  have I5 := li_st (l := L) (F := L) (pe := rdH L) (en := h2Z) (xs := hs) (s := sLB L 0 0) (pre := [] ++ bytesZ [lo, pa, no] ++ listE q7Z qs ++ listE n5Z ns ++ listE t7Z (ts.map nT) ++ listE leZ (ls.map nL)) (suf := []) (by simp only [List.append_assoc]; exact hLL) hp (fun y hy => rdH_reads hp (kh y hy)) nh I4.1
  have e9 : [] ++ bytesZ [lo, pa, no] ++ listE q7Z qs ++ listE n5Z ns ++ listE t7Z (ts.map nT) ++ listE leZ (ls.map nL) ++ listE h2Z hs = L := (app6 _ _ _ _ _ _).trans hLL.symm
  have z5 := st_end I5.1 (congrArg List.length e9)
  have eL : sLB L 0 0 = liF (rdL L) L (sTB L 0 0).1 (sTB L 0 0).2 := rfl
  have eT : sTB L 0 0 = liF (rdT L) L (sNB L 0 0).1 (sNB L 0 0).2 := rfl
  have eN : sNB L 0 0 = liF (rdN L) L (sQB L 0 0).1 (sQB L 0 0).2 := rfl
  have eQ : sQB L 0 0 = liF (rdQ L) L (s0B L 0 0).1 (s0B L 0 0).2 := rfl
  have e0 : s0B L 0 0 = (tkc L 0 0 2).2 := rfl
  have z4 : (sLB L 0 0).2 = 0 := liF_err (pe := rdH L) (l := L) (A := (sLB L 0 0).1) (E := (sLB L 0 0).2) (by rw [z5])
  rw [eL] at z4
  have z3 : (sTB L 0 0).2 = 0 := liF_err (pe := rdL L) (l := L) (A := (sTB L 0 0).1) (E := (sTB L 0 0).2) z4
  rw [eT] at z3
  have z2 : (sNB L 0 0).2 = 0 := liF_err (pe := rdT L) (l := L) (A := (sNB L 0 0).1) (E := (sNB L 0 0).2) z3
  rw [eN] at z2
  have z1 : (sQB L 0 0).2 = 0 := liF_err (pe := rdN L) (l := L) (A := (sQB L 0 0).1) (E := (sQB L 0 0).2) z2
  rw [eQ] at z1
  have z0 : (s0B L 0 0).2 = 0 := liF_err (pe := rdQ L) (l := L) (A := (s0B L 0 0).1) (E := (s0B L 0 0).2) z1
  rw [e0] at z0
  have v0 := (T 0 (by simp)).2 (tkc_keep 2 0 (by omega) z0)
  have v1 := (T 1 (by simp)).2 (tkc_keep 2 1 (by omega) z0)
  have v2 := T2.2 z0
  have wQ := I1.2 z1
  have wN := I2.2 z2
  have wT := I3.2 z3
  have wL := I4.2 z4
  have wH := I5.2 (by rw [z5])
  have z5' : sHB L 0 0 = ((L.length : Int), 0) := z5
  refine ⟨by rw [z5']; unfold endT; simp, ?_⟩
  rintro b W cs qa qn qc na nn nc ta tn tc la ln lc ha hn hc ⟨vQ, vN, vT, vL, vH, yT, yL, rfl, hQ, hN, ⟨hT, sT, mT⟩, ⟨hLo, sL, mL⟩, hH⟩ pq pn pt pta pl pla ph
  have c1 : liC (rdQ L) L (s0B L 0 0).1 (s0B L 0 0).2 = qn := by rw [← liL_len, wQ]; exact pq.1
  have c2 : liC (rdN L) L (sQB L 0 0).1 (sQB L 0 0).2 = nn := by rw [← liL_len, wN]; exact pn.1
  have c3 : liC (rdH L) L (sLB L 0 0).1 (sLB L 0 0).2 = hn := by rw [← liL_len, wH]; exact ph.1
  rw [c1, wQ] at hQ
  rw [c2, wN] at hN
  rw [c3, wH] at hH
  obtain ⟨lenT, alikeT⟩ := ta_alike wT hts hT.len sT
  obtain ⟨lenL, alikeL⟩ := le_alike wL hls hLo.len sL
  have hlt : ts.length = tn := pt.1
  have hll : ls.length = ln := pl.1
  have c4 : liC (rdT L) L (sNB L 0 0).1 (sNB L 0 0).2 = tn := by rw [← hT.len, lenT]; exact hlt
  have c5 : liC (rdL L) L (sTB L 0 0).1 (sTB L 0 0).2 = ln := by rw [← hLo.len, lenL]; exact hll
  rw [c4] at hT
  rw [c5] at hLo
  obtain ⟨a1, d1, rfl⟩ := hQ.form
  obtain ⟨a2, d2, rfl⟩ := hN.form
  obtain ⟨a3, d3, rfl⟩ := hT.form
  obtain ⟨a4, d4, rfl⟩ := hLo.form
  obtain ⟨a5, d5, rfl⟩ := hH.form
  rw [v0, v1, v2]
  have hbT : ∀ x ∈ yT, x.sl ≤ 140737488355328 := fun x hx => by
    obtain ⟨j, g, rfl⟩ := List.getElem_of_mem hx
    have g2 : j < ts.length := by omega
    have := (alikeT j g g2).2.2.2.2.2.1
    have := st _ (List.getElem_mem g2)
    omega
  have hbL : ∀ x ∈ yL, x.sl ≤ 140737488355328 := fun x hx => by
    obtain ⟨j, g, rfl⟩ := List.getElem_of_mem hx
    have g2 : j < ls.length := by omega
    have := (alikeL j g g2).2.2.2.1
    have := sl _ (List.getElem_mem g2)
    omega
  exact sstate_any lo pa no a1 qa qn d1 qc qs a2 na nn d2 nc ns a3 ta tn d3 tc yT ts a4 la ln d4 lc yL ls a5 ha hn d5 hc hs W (hQ.holds Q7.cs_len) pq (hN.holds N5.cs_len) pn (hT.holds T7.cs_len) pt (fun x hx => (mT x hx).holds encN_len) pta alikeT hbT (hLo.holds Le.cs_len) pl (fun x hx => (mL x hx).holds encN_len) pla alikeL hbL (hH.holds H2.cs_len) ph
end Go.Proofs.Ythkbddnkcljjpaa

namespace Go.Proofs.Ythkbddnkcljjpaa
open Go.RowKit Go.Deep Go.Maps
set_option linter.unusedVariables false
set_option linter.unusedSimpArgs false
theorem lngE_zero {b : Bool} (h : lngE b = 0) : b = false := by cases b; rfl; cases h
set_option maxRecDepth 100000 in
set_option maxHeartbeats 2000000 in
theorem ent_back (gp cl sq kd ci ir bt si q1 q2 q3 q4 q5 q6 q7 n1 n2 n3 n4 n5 t1 t2 c m wk st : Int) (xa : Option Addr) (xn xc : Nat) (tk : List Int) (hxn : tk.length = xn) (igp : I64 gp) (icl : I64 cl) (isq : I64 sq) (ikd : I64 kd) (ici : I64 ci) (iir : I64 ir) (ibt : I64 bt) (isi : I64 si) (iq1 : I64 q1) (iq2 : I64 q2) (iq3 : I64 q3) (iq4 : I64 q4) (iq5 : I64 q5) (iq6 : I64 q6) (iq7 : I64 q7) (in1 : I64 n1) (in2 : I64 n2) (in3 : I64 n3) (in4 : I64 n4) (in5 : I64 n5) (it1 : I64 t1) (it2 : I64 t2) (ic : I64 c) (im : I64 m) (iwk : I64 wk) (ist : I64 st) (hx : ∀ x ∈ tk, I64 x) :
    ∃ (EE : Int) (BS : List Int) (O : Nat → World → Array Value → Prop),
      (∀ W, HoldsN W xa xn xc tk → Calls Try.prog 12 #[.agg #[.int .i64 gp, .int .i64 cl, .int .i64 sq, .int .i64 kd, .int .i64 ci, .int .i64 ir, .int .i64 bt, .int .i64 si, .int .i64 q1, .int .i64 q2, .int .i64 q3, .int .i64 q4, .int .i64 q5, .int .i64 q6, .int .i64 q7, .int .i64 n1, .int .i64 n2, .int .i64 n3, .int .i64 n4, .int .i64 n5, .int .i64 t1, .int .i64 t2, .int .i64 c, .int .i64 m, .int .i64 wk, .slice xa xn xc, .int .i64 st]] W fun e w' => ∃ v, e = .returned (.tuple #[v, .int .i64 EE]) ∧ (EE = 0 → Own W.heap.size w' v BS.length BS) ∧ Below W.heap.size W w') ∧
      (EE = 0 → ∀ W a c, HoldsB W a BS.length c BS → Calls Try.prog 22 #[.slice a BS.length c] W fun e w' => ∃ cs, e = .returned (.tuple #[.agg cs, .int .i64 0, .int .i64 0]) ∧ O W.heap.size w' cs ∧ cs.size = 27 ∧ cs.all (·.oneCell') = true ∧ Below W.heap.size W w') ∧
      (EE = 0 → ∀ b W cs, O b W cs → HoldsN W xa xn xc tk → Calls Try.prog 15 #[.agg cs, .agg #[.int .i64 gp, .int .i64 cl, .int .i64 sq, .int .i64 kd, .int .i64 ci, .int .i64 ir, .int .i64 bt, .int .i64 si, .int .i64 q1, .int .i64 q2, .int .i64 q3, .int .i64 q4, .int .i64 q5, .int .i64 q6, .int .i64 q7, .int .i64 n1, .int .i64 n2, .int .i64 n3, .int .i64 n4, .int .i64 n5, .int .i64 t1, .int .i64 t2, .int .i64 c, .int .i64 m, .int .i64 wk, .slice xa xn xc, .int .i64 st]] W fun e w' => e = .returned (.bool true) ∧ Below W.heap.size W w') ∧
      (∀ b W W' cs, O b W cs → Below W.heap.size W W' → O b W' cs) := by
  obtain ⟨BS, hBS⟩ : ∃ BS, BS = entZ gp cl sq (cmdZ kd ci ir bt si (bytesZ [q1, q2, q3, q4, q5, q6, q7]) (bytesZ [n1, n2, n3, n4, n5]) (taskZ t1 t2 c m wk tk st)) := ⟨_, rfl⟩
  have F := fun (z : encE xn kd = 0) => fwd_ent (L := BS) gp cl sq kd ci ir bt si q1 q2 q3 q4 q5 q6 q7 n1 n2 n3 n4 n5 t1 t2 c m wk st tk hBS (by rw [hxn]; exact z) igp icl isq ikd ici iir ibt isi iq1 iq2 iq3 iq4 iq5 iq6 iq7 in1 in2 in3 in4 in5 it1 it2 ic im iwk ist hx
  refine ⟨encE xn kd, BS, EnO BS 0 0, fun W hW => ?_, fun z W a c hb => by
      have f := (F z).1
      refine (decentry_any a BS.length c BS W hb).mono ?_
      rintro e w' ⟨cs, rfl, hz, ho, hcs, hon, hw⟩
      rw [f] at ho ⊢
      exact ⟨cs, rfl, ho rfl, hcs, hon, hw⟩, fun z b W cs ho hW => (F z).2 b W cs xa xn xc ho hW, fun b W W' cs ho hb => ho.below' hb⟩
  refine (encentry_any gp cl sq kd ci ir bt si q1 q2 q3 q4 q5 q6 q7 n1 n2 n3 n4 n5 t1 t2 c m wk xa xn xc tk st W igp icl isq ikd ici iir ibt isi iq1 iq2 iq3 iq4 iq5 iq6 iq7 in1 in2 in3 in4 in5 it1 it2 ic im iwk ist hW hx).mono ?_
  rintro e w' ⟨v, rfl, h1, h2, h3⟩
  rw [← hBS] at h1
  exact ⟨v, rfl, h1, h3⟩
set_option maxRecDepth 100000 in
set_option maxHeartbeats 2000000 in
theorem ans_back (er at' an : Int) (ca : Option Addr) (cn cc : Nat) (co : List Int) (ra : Option Addr) (rn rc : Nat) (rs : List Le) (hcn : co.length = cn) (hi : I64 er ∧ I64 at' ∧ I64 an) (hcx : ∀ x ∈ co, I64 x) (hrs : ∀ x ∈ rs, x.co.length = x.sl ∧ x.okA) :
    ∃ (EE : Int) (BS : List Int) (O : Nat → World → Array Value → Prop),
      (∀ W, (HoldsN W ca cn cc co ∧ HoldsE 8 Le.cs W ra rn rc rs ∧ LeAll W rs) → Calls Try.prog 16 #[.agg #[.int .i64 er, .int .i64 at', .int .i64 an, .slice ca cn cc, .slice ra rn rc]] W fun e w' => ∃ v, e = .returned (.tuple #[v, .int .i64 EE]) ∧ (EE = 0 → Own W.heap.size w' v BS.length BS) ∧ Below W.heap.size W w') ∧
      (EE = 0 → ∀ W a c, HoldsB W a BS.length c BS → Calls Try.prog 24 #[.slice a BS.length c] W fun e w' => ∃ cs, e = .returned (.tuple #[.agg cs, .int .i64 0, .int .i64 0]) ∧ O W.heap.size w' cs ∧ cs.size = 5 ∧ cs.all (·.oneCell') = true ∧ Below W.heap.size W w') ∧
      (EE = 0 → ∀ b W cs, O b W cs → (HoldsN W ca cn cc co ∧ HoldsE 8 Le.cs W ra rn rc rs ∧ LeAll W rs) → Calls Try.prog 26 #[.agg cs, .agg #[.int .i64 er, .int .i64 at', .int .i64 an, .slice ca cn cc, .slice ra rn rc]] W fun e w' => e = .returned (.bool true) ∧ Below W.heap.size W w') ∧
      (∀ b W W' cs, O b W cs → Below W.heap.size W W' → O b W' cs) := by
  obtain ⟨BS, hBS⟩ : ∃ BS, BS = bytesZ [er] ++ (bytesZ [at', an] ++ (listZ co ++ listW leZ rs)) := ⟨_, rfl⟩
  have F := fun (z : lngE (decide (1024 < cn) || flW leL rs) = 0) => fwd_ans (L := BS) er at' an co rs hBS (by rw [hcn]; exact lngE_zero z) hi.1 hi.2.1 hi.2.2 hcx (fun x hx => (hrs x hx).2) (fun x hx => (hrs x hx).1)
  refine ⟨lngE (decide (1024 < cn) || flW leL rs), BS, AnO BS 0 0, fun W hW => ?_, fun z W a c hb => by
      have f := (F z).1
      refine (decanswer_any a BS.length c BS W hb).mono ?_
      rintro e w' ⟨cs, rfl, hz, ho, hcs, hon, hw⟩
      rw [f] at ho ⊢
      exact ⟨cs, rfl, ho rfl, hcs, hon, hw⟩, fun z b W cs ho hW => (F z).2 b W cs ca cn cc ra rn rc ho hW.1 hW.2.1 (fun x hx => (hW.2.2 x hx).1), fun b W W' cs ho hb => ho.below' hb⟩
  refine (encanswer_any er at' an ca cn cc co ra rn rc rs W hi.1 hi.2.1 hi.2.2 hW.1 hcx hW.2.1 hW.2.2).mono ?_
  rintro e w' ⟨v, rfl, h1, h2, h3⟩
  rw [← hBS] at h1
  exact ⟨v, rfl, fun z => h1 (lngE_zero z), h3⟩
set_option maxRecDepth 100000 in
set_option maxHeartbeats 2000000 in
theorem sta_back (lo pa no : Int) (qa : Option Addr) (qn qc : Nat) (qs : List Q7) (na : Option Addr) (nn nc : Nat) (ns : List N5) (ta : Option Addr) (tn tc : Nat) (ts : List T7) (la : Option Addr) (ln lc : Nat) (ls : List Le) (ha : Option Addr) (hn hc : Nat) (hs : List H2) (hi : I64 lo ∧ I64 pa ∧ I64 no) (kq : ∀ x ∈ qs, x.ok) (kn : ∀ x ∈ ns, x.ok) (kt : ∀ x ∈ ts, x.tk.length = x.sl ∧ x.ok) (kl : ∀ x ∈ ls, x.co.length = x.sl ∧ x.okA) (kh : ∀ x ∈ hs, x.ok) :
    ∃ (EE : Int) (BS : List Int) (O : Nat → World → Array Value → Prop),
      (∀ W, (HoldsE 7 Q7.cs W qa qn qc qs ∧ HoldsE 5 N5.cs W na nn nc ns ∧ (HoldsE 7 T7.cs W ta tn tc ts ∧ TaAll W ts) ∧ (HoldsE 8 Le.cs W la ln lc ls ∧ LeAll W ls) ∧ HoldsE 2 H2.cs W ha hn hc hs) → Calls Try.prog 19 #[.agg #[.int .i64 lo, .int .i64 pa, .int .i64 no, .slice qa qn qc, .slice na nn nc, .slice ta tn tc, .slice la ln lc, .slice ha hn hc]] W fun e w' => ∃ v, e = .returned (.tuple #[v, .int .i64 EE]) ∧ (EE = 0 → Own W.heap.size w' v BS.length BS) ∧ Below W.heap.size W w') ∧
      (EE = 0 → ∀ W a c, HoldsB W a BS.length c BS → Calls Try.prog 27 #[.slice a BS.length c] W fun e w' => ∃ cs, e = .returned (.tuple #[.agg cs, .int .i64 0, .int .i64 0]) ∧ O W.heap.size w' cs ∧ cs.size = 8 ∧ cs.all (·.oneCell') = true ∧ Below W.heap.size W w') ∧
      (EE = 0 → ∀ b W cs, O b W cs → (HoldsE 7 Q7.cs W qa qn qc qs ∧ HoldsE 5 N5.cs W na nn nc ns ∧ (HoldsE 7 T7.cs W ta tn tc ts ∧ TaAll W ts) ∧ (HoldsE 8 Le.cs W la ln lc ls ∧ LeAll W ls) ∧ HoldsE 2 H2.cs W ha hn hc hs) → Calls Try.prog 21 #[.agg cs, .agg #[.int .i64 lo, .int .i64 pa, .int .i64 no, .slice qa qn qc, .slice na nn nc, .slice ta tn tc, .slice la ln lc, .slice ha hn hc]] W fun e w' => e = .returned (.bool true) ∧ Below W.heap.size W w') ∧
      (∀ b W W' cs, O b W cs → Below W.heap.size W W' → O b W' cs) := by
  obtain ⟨BS, hBS⟩ : ∃ BS, BS = bytesZ [lo, pa, no] ++ (listW q7Z qs ++ (listW n5Z ns ++ (listW t7Z ts ++ (listW leZ ls ++ listW h2Z hs)))) := ⟨_, rfl⟩
  have F := fun (z : lngE (flW (fun _ => false) qs || (flW (fun _ => false) ns || (flW t7L ts || (flW leL ls || flW (fun _ => false) hs)))) = 0) => fwd_sta (L := BS) lo pa no qs ns ts ls hs hBS (lngE_zero z) hi.1 hi.2.1 hi.2.2 kq kn (fun x hx => (kt x hx).2) (fun x hx => (kt x hx).1) (fun x hx => (kl x hx).2) (fun x hx => (kl x hx).1) kh
  refine ⟨lngE (flW (fun _ => false) qs || (flW (fun _ => false) ns || (flW t7L ts || (flW leL ls || flW (fun _ => false) hs)))), BS, StO BS 0 0, fun W hW => ?_, fun z W a c hb => by
      have f := (F z).1
      refine (decstate_any a BS.length c BS W hb).mono ?_
      rintro e w' ⟨cs, rfl, hz, ho, hcs, hon, hw⟩
      rw [f] at ho ⊢
      exact ⟨cs, rfl, ho rfl, hcs, hon, hw⟩, fun z b W cs ho hW => (F z).2 b W cs qa qn qc na nn nc ta tn tc la ln lc ha hn hc ho hW.1 hW.2.1 hW.2.2.1.1 (fun x hx => (hW.2.2.1.2 x hx).1) hW.2.2.2.1.1 (fun x hx => (hW.2.2.2.1.2 x hx).1) hW.2.2.2.2, fun b W W' cs ho hb => ho.below' hb⟩
  refine (encstate_any lo pa no qa qn qc qs na nn nc ns ta tn tc ts la ln lc ls ha hn hc hs W hi.1 hi.2.1 hi.2.2 hW.1 kq hW.2.1 kn hW.2.2.1.1 hW.2.2.1.2 hW.2.2.2.1.1 hW.2.2.2.1.2 hW.2.2.2.2 kh).mono ?_
  rintro e w' ⟨v, rfl, h1, h2, h3⟩
  rw [← hBS] at h1
  exact ⟨v, rfl, fun z => h1 (lngE_zero z), h3⟩
set_option maxRecDepth 100000 in
set_option maxHeartbeats 8000000 in
theorem written_any (a : Option Addr) (n c : Nat) (l : List Int) (w : World) (hl : HoldsB w a n c l) :
    Calls Try.prog 29 #[.slice a n c] w fun e w' => e = .returned (.bool true) ∧ Below w.heap.size w w' := by
  have HB := hid hl.2.2.2.2.1
  have HN := hid hl.1
  have HL := hid hl
  have B := hid (Below.refl w.heap.size w)
  clear hl
  have DE := hid (fun W (H : HoldsB W a n c l) => decentry_any a n c l W H)
  have KE := hid (fun (b : Nat) (W : World) (cs : Array Value) h he => back_ent (l := l) (b := b) (n := n) (W := W) (cs := cs) HB.out HN.out h he)
  have VE := hid (fun (b : Nat) (W W' : World) (cs : Array Value) (h : EnO l 0 0 b W cs) (hb : Below W.heap.size W W') => h.below' hb)
  generalize endT n (enE l 0 0).2.1 (enE l 0 0).2.2 = UE at *
  obtain ⟨PE, EE⟩ := UE
  simp only at DE KE
  generalize EnO l 0 0 = OE at *
  have DA := hid (fun W (H : HoldsB W a n c l) => decanswer_any a n c l W H)
  have KA := hid (fun (b : Nat) (W : World) (cs : Array Value) h he => back_ans (l := l) (b := b) (n := n) (W := W) (cs := cs) HB.out HN.out h he)
  have VA := hid (fun (b : Nat) (W W' : World) (cs : Array Value) (h : AnO l 0 0 b W cs) (hb : Below W.heap.size W W') => h.below' hb)
  generalize endT n (anE l 0 0).1 (anE l 0 0).2 = UA at *
  obtain ⟨PA, EA⟩ := UA
  simp only at DA KA
  generalize AnO l 0 0 = OA at *
  have DS := hid (fun W (H : HoldsB W a n c l) => decstate_any a n c l W H)
  have KS := hid (fun (b : Nat) (W : World) (cs : Array Value) h he => back_sta (l := l) (b := b) (n := n) (W := W) (cs := cs) HB.out HN.out h he)
  have VS := hid (fun (b : Nat) (W W' : World) (cs : Array Value) (h : StO l 0 0 b W cs) (hb : Below W.heap.size W W') => h.below' hb)
  generalize endT n (sHB l 0 0).1 (sHB l 0 0).2 = US at *
  obtain ⟨PS, ES⟩ := US
  simp only at DS KS
  generalize StO l 0 0 = OS at *
  clear HB HN
  go_enter Try.func29, Try.ntmps29
  have C1 := hid (DE.out w HL.out)
  go_wp2_with fail
  with_reducible refine C1.out.mono ?_
  rintro e W1 ⟨cs, rfl, hz, ho, hcs, hon, b1⟩
  have b2 := (Below.refl W1.heap.size W1).alloc (Nat.le_refl _) (.cells cs 34)
  have X := hid (Blk.alloc W1 cs (34))
  have hsz : (Try.prog.info? 34).map (·.size) = some cs.size := by rw [hcs]; exact sizeEnt
  have Y := hid (fun h => VE.out _ _ _ _ (ho h) b2)
  replace HL := hid ((HL.out.below b1).below b2)
  replace B := hid ((B.out.trans (b1.mono B.out.size)).trans (b2.mono (B.out.trans (b1.mono B.out.size)).size))
  have HO := hid hon
  have HC := hid hcs
  have HS := hid hsz
  clear C1 b1 b2 hz ho hon hsz hcs
  go_upto_region 2 with (refine wpList_store_row rfl 34 (.tmp 3) (.tmp 21) rfl W1.heap.size cs rfl rfl 34 _ (heap_alloc_new W1 _) HS.out (by rw [HC.out]; rfl) HO.out ?_)
  rw [alloc_row]
  generalize W1.alloc (.cells cs 34) = W2 at *
  generalize W1.heap.size = Q at *
  by_cases hE : EE = 0
  · subst hE
    have C2 := hid (KE.out _ W2 cs (Y.out rfl) rfl)
    have LD := X.out.loadAt Try.underlying34 rfl HS.out
    clear Y X HO HC HS KE DE VE
    go_wp2_with (refine wpList_load_at 34 rfl (.tmp 3) rfl _ _ rfl _ LD ?_)
    with_reducible refine C2.out.mono ?_
    rintro e W3 ⟨v, rfl, o, b1⟩
    obtain ⟨va, vc, rfl⟩ := o.form
    replace HL := hid (HL.out.below b1)
    replace B := hid (B.out.trans (b1.mono B.out.size))
    have C3 := hid (bytes_same _ _ _ _ _ _ _ _ o.holds HL.out)
    clear C2 LD b1 o
    go_wp2_with fail
    with_reducible refine C3.out.mono ?_
    rintro e W6 ⟨rfl, rfl⟩
    clear C3
    have C1 := hid (DA.out W3 HL.out)
    go_wp2_with fail
    with_reducible refine C1.out.mono ?_
    rintro e W1 ⟨cs, rfl, hz, ho, hcs, hon, b1⟩
    have b2 := (Below.refl W1.heap.size W1).alloc (Nat.le_refl _) (.cells cs 46)
    have X := hid (Blk.alloc W1 cs (46))
    have hsz : (Try.prog.info? 46).map (·.size) = some cs.size := by rw [hcs]; exact sizeAns
    have Y := hid (fun h => VA.out _ _ _ _ (ho h) b2)
    replace HL := hid ((HL.out.below b1).below b2)
    replace B := hid ((B.out.trans (b1.mono B.out.size)).trans (b2.mono (B.out.trans (b1.mono B.out.size)).size))
    have HO := hid hon
    have HC := hid hcs
    have HS := hid hsz
    clear C1 b1 b2 hz ho hon hsz hcs
    go_upto_region 7 with (refine wpList_store_row rfl 46 (.tmp 8) (.tmp 42) rfl W1.heap.size cs rfl rfl 46 _ (heap_alloc_new W1 _) HS.out (by rw [HC.out]; rfl) HO.out ?_)
    rw [alloc_row]
    generalize W1.alloc (.cells cs 46) = W2 at *
    generalize W1.heap.size = Q at *
    by_cases hE : EA = 0
    · subst hE
      have C2 := hid (KA.out _ W2 cs (Y.out rfl) rfl)
      have LD := X.out.loadAt Try.underlying46 rfl HS.out
      clear Y X HO HC HS KA DA VA
      go_wp2_with (refine wpList_load_at 46 rfl (.tmp 8) rfl _ _ rfl _ LD ?_)
      with_reducible refine C2.out.mono ?_
      rintro e W3 ⟨v, rfl, o, b1⟩
      obtain ⟨va, vc, rfl⟩ := o.form
      replace HL := hid (HL.out.below b1)
      replace B := hid (B.out.trans (b1.mono B.out.size))
      have C3 := hid (bytes_same _ _ _ _ _ _ _ _ o.holds HL.out)
      clear C2 LD b1 o
      go_wp2_with fail
      with_reducible refine C3.out.mono ?_
      rintro e W6 ⟨rfl, rfl⟩
      clear C3
      have C1 := hid (DS.out W3 HL.out)
      go_wp2_with fail
      with_reducible refine C1.out.mono ?_
      rintro e W1 ⟨cs, rfl, hz, ho, hcs, hon, b1⟩
      have b2 := (Below.refl W1.heap.size W1).alloc (Nat.le_refl _) (.cells cs 54)
      have X := hid (Blk.alloc W1 cs (54))
      have hsz : (Try.prog.info? 54).map (·.size) = some cs.size := by rw [hcs]; exact sizeSta
      have Y := hid (fun h => VS.out _ _ _ _ (ho h) b2)
      replace HL := hid ((HL.out.below b1).below b2)
      replace B := hid ((B.out.trans (b1.mono B.out.size)).trans (b2.mono (B.out.trans (b1.mono B.out.size)).size))
      have HO := hid hon
      have HC := hid hcs
      have HS := hid hsz
      clear C1 b1 b2 hz ho hon hsz hcs
      go_upto_region 12 with (refine wpList_store_row rfl 54 (.tmp 13) (.tmp 63) rfl W1.heap.size cs rfl rfl 54 _ (heap_alloc_new W1 _) HS.out (by rw [HC.out]; rfl) HO.out ?_)
      rw [alloc_row]
      generalize W1.alloc (.cells cs 54) = W2 at *
      generalize W1.heap.size = Q at *
      by_cases hE : ES = 0
      · subst hE
        have C2 := hid (KS.out _ W2 cs (Y.out rfl) rfl)
        have LD := X.out.loadAt Try.underlying54 rfl HS.out
        clear Y X HO HC HS KS DS VS
        go_wp2_with (refine wpList_load_at 54 rfl (.tmp 13) rfl _ _ rfl _ LD ?_)
        with_reducible refine C2.out.mono ?_
        rintro e W3 ⟨v, rfl, o, b1⟩
        obtain ⟨va, vc, rfl⟩ := o.form
        replace HL := hid (HL.out.below b1)
        replace B := hid (B.out.trans (b1.mono B.out.size))
        have C3 := hid (bytes_same _ _ _ _ _ _ _ _ o.holds HL.out)
        clear C2 LD b1 o
        go_wp2_with fail
        with_reducible refine C3.out.mono ?_
        rintro e W6 ⟨rfl, rfl⟩
        clear C3
        go_wp2_with fail
        go_ret
        exact ⟨rfl, B.out⟩
      · have tE : (ES == 0) = false := by simpa using hE
        clear hE Y X HO HC HS KS DS VS
        go_wp2_with fail
        go_ret
        exact ⟨rfl, B.out⟩
    · have tE : (EA == 0) = false := by simpa using hE
      clear hE Y X HO HC HS KA DA VA
      have C1 := hid (DS.out W2 HL.out)
      go_wp2_with fail
      with_reducible refine C1.out.mono ?_
      rintro e W1 ⟨cs, rfl, hz, ho, hcs, hon, b1⟩
      have b2 := (Below.refl W1.heap.size W1).alloc (Nat.le_refl _) (.cells cs 54)
      have X := hid (Blk.alloc W1 cs (54))
      have hsz : (Try.prog.info? 54).map (·.size) = some cs.size := by rw [hcs]; exact sizeSta
      have Y := hid (fun h => VS.out _ _ _ _ (ho h) b2)
      replace HL := hid ((HL.out.below b1).below b2)
      replace B := hid ((B.out.trans (b1.mono B.out.size)).trans (b2.mono (B.out.trans (b1.mono B.out.size)).size))
      have HO := hid hon
      have HC := hid hcs
      have HS := hid hsz
      clear C1 b1 b2 hz ho hon hsz hcs
      go_upto_region 12 with (refine wpList_store_row rfl 54 (.tmp 13) (.tmp 63) rfl W1.heap.size cs rfl rfl 54 _ (heap_alloc_new W1 _) HS.out (by rw [HC.out]; rfl) HO.out ?_)
      rw [alloc_row]
      generalize W1.alloc (.cells cs 54) = W2 at *
      generalize W1.heap.size = Q at *
      by_cases hE : ES = 0
      · subst hE
        have C2 := hid (KS.out _ W2 cs (Y.out rfl) rfl)
        have LD := X.out.loadAt Try.underlying54 rfl HS.out
        clear Y X HO HC HS KS DS VS
        go_wp2_with (refine wpList_load_at 54 rfl (.tmp 13) rfl _ _ rfl _ LD ?_)
        with_reducible refine C2.out.mono ?_
        rintro e W3 ⟨v, rfl, o, b1⟩
        obtain ⟨va, vc, rfl⟩ := o.form
        replace HL := hid (HL.out.below b1)
        replace B := hid (B.out.trans (b1.mono B.out.size))
        have C3 := hid (bytes_same _ _ _ _ _ _ _ _ o.holds HL.out)
        clear C2 LD b1 o
        go_wp2_with fail
        with_reducible refine C3.out.mono ?_
        rintro e W6 ⟨rfl, rfl⟩
        clear C3
        go_wp2_with fail
        go_ret
        exact ⟨rfl, B.out⟩
      · have tE : (ES == 0) = false := by simpa using hE
        clear hE Y X HO HC HS KS DS VS
        go_wp2_with fail
        go_ret
        exact ⟨rfl, B.out⟩
  · have tE : (EE == 0) = false := by simpa using hE
    clear hE Y X HO HC HS KE DE VE
    have C1 := hid (DA.out W2 HL.out)
    go_wp2_with fail
    with_reducible refine C1.out.mono ?_
    rintro e W1 ⟨cs, rfl, hz, ho, hcs, hon, b1⟩
    have b2 := (Below.refl W1.heap.size W1).alloc (Nat.le_refl _) (.cells cs 46)
    have X := hid (Blk.alloc W1 cs (46))
    have hsz : (Try.prog.info? 46).map (·.size) = some cs.size := by rw [hcs]; exact sizeAns
    have Y := hid (fun h => VA.out _ _ _ _ (ho h) b2)
    replace HL := hid ((HL.out.below b1).below b2)
    replace B := hid ((B.out.trans (b1.mono B.out.size)).trans (b2.mono (B.out.trans (b1.mono B.out.size)).size))
    have HO := hid hon
    have HC := hid hcs
    have HS := hid hsz
    clear C1 b1 b2 hz ho hon hsz hcs
    go_upto_region 7 with (refine wpList_store_row rfl 46 (.tmp 8) (.tmp 42) rfl W1.heap.size cs rfl rfl 46 _ (heap_alloc_new W1 _) HS.out (by rw [HC.out]; rfl) HO.out ?_)
    rw [alloc_row]
    generalize W1.alloc (.cells cs 46) = W2 at *
    generalize W1.heap.size = Q at *
    by_cases hE : EA = 0
    · subst hE
      have C2 := hid (KA.out _ W2 cs (Y.out rfl) rfl)
      have LD := X.out.loadAt Try.underlying46 rfl HS.out
      clear Y X HO HC HS KA DA VA
      go_wp2_with (refine wpList_load_at 46 rfl (.tmp 8) rfl _ _ rfl _ LD ?_)
      with_reducible refine C2.out.mono ?_
      rintro e W3 ⟨v, rfl, o, b1⟩
      obtain ⟨va, vc, rfl⟩ := o.form
      replace HL := hid (HL.out.below b1)
      replace B := hid (B.out.trans (b1.mono B.out.size))
      have C3 := hid (bytes_same _ _ _ _ _ _ _ _ o.holds HL.out)
      clear C2 LD b1 o
      go_wp2_with fail
      with_reducible refine C3.out.mono ?_
      rintro e W6 ⟨rfl, rfl⟩
      clear C3
      have C1 := hid (DS.out W3 HL.out)
      go_wp2_with fail
      with_reducible refine C1.out.mono ?_
      rintro e W1 ⟨cs, rfl, hz, ho, hcs, hon, b1⟩
      have b2 := (Below.refl W1.heap.size W1).alloc (Nat.le_refl _) (.cells cs 54)
      have X := hid (Blk.alloc W1 cs (54))
      have hsz : (Try.prog.info? 54).map (·.size) = some cs.size := by rw [hcs]; exact sizeSta
      have Y := hid (fun h => VS.out _ _ _ _ (ho h) b2)
      replace HL := hid ((HL.out.below b1).below b2)
      replace B := hid ((B.out.trans (b1.mono B.out.size)).trans (b2.mono (B.out.trans (b1.mono B.out.size)).size))
      have HO := hid hon
      have HC := hid hcs
      have HS := hid hsz
      clear C1 b1 b2 hz ho hon hsz hcs
      go_upto_region 12 with (refine wpList_store_row rfl 54 (.tmp 13) (.tmp 63) rfl W1.heap.size cs rfl rfl 54 _ (heap_alloc_new W1 _) HS.out (by rw [HC.out]; rfl) HO.out ?_)
      rw [alloc_row]
      generalize W1.alloc (.cells cs 54) = W2 at *
      generalize W1.heap.size = Q at *
      by_cases hE : ES = 0
      · subst hE
        have C2 := hid (KS.out _ W2 cs (Y.out rfl) rfl)
        have LD := X.out.loadAt Try.underlying54 rfl HS.out
        clear Y X HO HC HS KS DS VS
        go_wp2_with (refine wpList_load_at 54 rfl (.tmp 13) rfl _ _ rfl _ LD ?_)
        with_reducible refine C2.out.mono ?_
        rintro e W3 ⟨v, rfl, o, b1⟩
        obtain ⟨va, vc, rfl⟩ := o.form
        replace HL := hid (HL.out.below b1)
        replace B := hid (B.out.trans (b1.mono B.out.size))
        have C3 := hid (bytes_same _ _ _ _ _ _ _ _ o.holds HL.out)
        clear C2 LD b1 o
        go_wp2_with fail
        with_reducible refine C3.out.mono ?_
        rintro e W6 ⟨rfl, rfl⟩
        clear C3
        go_wp2_with fail
        go_ret
        exact ⟨rfl, B.out⟩
      · have tE : (ES == 0) = false := by simpa using hE
        clear hE Y X HO HC HS KS DS VS
        go_wp2_with fail
        go_ret
        exact ⟨rfl, B.out⟩
    · have tE : (EA == 0) = false := by simpa using hE
      clear hE Y X HO HC HS KA DA VA
      have C1 := hid (DS.out W2 HL.out)
      go_wp2_with fail
      with_reducible refine C1.out.mono ?_
      rintro e W1 ⟨cs, rfl, hz, ho, hcs, hon, b1⟩
      have b2 := (Below.refl W1.heap.size W1).alloc (Nat.le_refl _) (.cells cs 54)
      have X := hid (Blk.alloc W1 cs (54))
      have hsz : (Try.prog.info? 54).map (·.size) = some cs.size := by rw [hcs]; exact sizeSta
      have Y := hid (fun h => VS.out _ _ _ _ (ho h) b2)
      replace HL := hid ((HL.out.below b1).below b2)
      replace B := hid ((B.out.trans (b1.mono B.out.size)).trans (b2.mono (B.out.trans (b1.mono B.out.size)).size))
      have HO := hid hon
      have HC := hid hcs
      have HS := hid hsz
      clear C1 b1 b2 hz ho hon hsz hcs
      go_upto_region 12 with (refine wpList_store_row rfl 54 (.tmp 13) (.tmp 63) rfl W1.heap.size cs rfl rfl 54 _ (heap_alloc_new W1 _) HS.out (by rw [HC.out]; rfl) HO.out ?_)
      rw [alloc_row]
      generalize W1.alloc (.cells cs 54) = W2 at *
      generalize W1.heap.size = Q at *
      by_cases hE : ES = 0
      · subst hE
        have C2 := hid (KS.out _ W2 cs (Y.out rfl) rfl)
        have LD := X.out.loadAt Try.underlying54 rfl HS.out
        clear Y X HO HC HS KS DS VS
        go_wp2_with (refine wpList_load_at 54 rfl (.tmp 13) rfl _ _ rfl _ LD ?_)
        with_reducible refine C2.out.mono ?_
        rintro e W3 ⟨v, rfl, o, b1⟩
        obtain ⟨va, vc, rfl⟩ := o.form
        replace HL := hid (HL.out.below b1)
        replace B := hid (B.out.trans (b1.mono B.out.size))
        have C3 := hid (bytes_same _ _ _ _ _ _ _ _ o.holds HL.out)
        clear C2 LD b1 o
        go_wp2_with fail
        with_reducible refine C3.out.mono ?_
        rintro e W6 ⟨rfl, rfl⟩
        clear C3
        go_wp2_with fail
        go_ret
        exact ⟨rfl, B.out⟩
      · have tE : (ES == 0) = false := by simpa using hE
        clear hE Y X HO HC HS KS DS VS
        go_wp2_with fail
        go_ret
        exact ⟨rfl, B.out⟩
end Go.Proofs.Ythkbddnkcljjpaa

namespace Go.Proofs.Ythkbddnkcljjpaa
open Go.ChangeShapes Go.WideShapes Go.ChangeAt Go.RowKit Go.Deep
set_option linter.unusedVariables false
set_option linter.unusedSimpArgs false

section
variable {H : Type} {enc : TypeId × Value → H} {w : World} {base b0 : Nat} {spare : Nat → Bool} {held : Bool} {r : Reach} {v : Value} {d : DataW H} {p : List MemPlace} {fuel : Nat} {cs : List Value} {x : DataW H × List MemPlace}

/-- A list of things, as it comes in. -/
theorem rows_open {α : Type} [Inhabited α] {t e : TypeId} {k : Nat} {en : α → List Value} {ok : DataW H → α → Prop} (ht : Try.prog.underlying t = some (.slice e)) (hc : Try.prog.cellsOf e = k) (hk : ∀ x, (en x).length = k) (hk0 : 0 < k)
    (he : ∀ fuel cs x, DataW.trod enc Try.prog w base (fun _ => true) held fuel e cs = some x → ∃ q : α, cs = en q ∧ ok x.1 q)
    (hf : DataW.trod enc Try.prog w base (fun _ => true) held fuel t cs = some x) :
    ∃ (a : Option Addr) (len cap : Nat) (l : List α), cs = [.slice a len cap] ∧ HoldsE k en w a len cap l ∧ (∀ q ∈ l, ∃ D, ok D q ∧ ∀ n ∈ DataW.weights Try.prog e D, n ∈ x.1.weights Try.prog t) ∧ (cap = 0 ∨ cap * Try.prog.bytesOf e ∈ x.1.weights Try.prog t) := by
  rcases open_slice ht hf with ⟨hcs, _⟩ | ⟨ad, l, c, m, n, D, Pl, hcs, _, hl, hm, hmm, hx, hi⟩
  · exact ⟨none, 0, 0, [], hcs, ⟨rfl, by omega, by omega, fun _ => ⟨rfl, rfl⟩, fun h => absurd h (by omega)⟩, (fun q hq => by cases hq), .inl rfl⟩
  · simp only [if_true] at hmm
    subst hmm
    rw [hc] at hi
    have hg : ∀ i, i < l → ∃ q : α, ok (D i) q ∧ ∀ j u, (en q)[j]? = some u → w.cell? (ad.add (i * k + j)) = some u := fun i hlt => by
      obtain ⟨cs', h1, h2⟩ := hi i (by omega)
      obtain ⟨q, e1, hq⟩ := he _ _ _ h2
      obtain ⟨_, h3, h4⟩ := World.cells?_some h1
      refine ⟨q, hq, fun j u hu => ?_⟩
      have hj : j < k := by have := (List.getElem?_eq_some_iff.1 hu).1; rw [hk] at this; exact this
      have := h4 j hj
      rw [Go.Deep.add_add, e1, hu] at this
      exact this
    have hcase : ∃ f : Nat → α, ∀ i, i < l → ok (D i) (f i) ∧ ∀ j u, (en (f i))[j]? = some u → w.cell? (ad.add (i * k + j)) = some u := by
      refine ⟨fun i => if h : i < l then (hg i h).choose else default, fun i hlt => ?_⟩
      simp only [dif_pos hlt]
      exact (hg i hlt).choose_spec
    obtain ⟨f, hf2⟩ := hcase
    unfold maxLen at hm
    refine ⟨some ad, l, m, (List.range l).map f, hcs, ⟨by simp, hl, by omega, (fun h => by cases h), fun hp => ?_⟩, ?_, .inr ?_⟩
    · have h0 := (hf2 0 hp).2 0 ((en (f 0))[0]'(by rw [hk]; exact hk0)) (List.getElem?_eq_getElem _)
      have hsp := cell_spot h0
      obtain ⟨b, o, s⟩ := ad
      have hs : s = none := by
        cases s with
        | none => rfl
        | some y => simp [Addr.add] at hsp
      subst hs
      refine ⟨b, o, rfl, ?_, fun j y hy i u hu => ?_⟩
      · have := World.block_lt_of_cell? w _ h0
        simpa [Addr.add] using this
      · have hj : j < l := by have := (List.getElem?_eq_some_iff.1 hy).1; simpa using this
        rw [List.getElem?_map, List.getElem?_range hj] at hy
        simp at hy
        subst hy
        have := (hf2 j hj).2 i u hu
        rw [Addr.add_lit, ← Nat.add_assoc] at this
        exact this
    · intro q hq
      obtain ⟨i, hi1, rfl⟩ := List.mem_map.1 hq
      have hi2 : i < l := by simpa using hi1
      refine ⟨D i, (hf2 i hi2).1, fun n hn => ?_⟩
      have hd : x.1 = _ := congrArg Prod.fst hx
      rw [hd]
      simp only [DataW.weights, ht]
      refine List.mem_cons_of_mem _ (List.mem_append.2 (.inl (weights_mem_all ?_ n hn)))
      exact List.mem_map.2 ⟨i, by simpa using hi2, rfl⟩
    · have hd : x.1 = _ := congrArg Prod.fst hx
      rw [hd]
      simp only [DataW.weights, ht]
      have e9 : ∀ (u v : Nat), u + v = m → (u + v) * Try.prog.bytesOf e = m * Try.prog.bytesOf e := fun u v h => by rw [h]
      rw [e9 _ _ (by simp; omega)]
      exact List.mem_cons_self

theorem reach_mem {ws : List Nat} (h : ws.all (· ≤ reachBytes) = true) {n : Nat} (hn : n ∈ ws) : n ≤ 140737488351232 := by
  have := of_decide_eq_true ((List.all_eq_true.1 h) n hn)
  simpa [reachBytes] using this

set_option maxRecDepth 100000 in
/-- A lease with all its numbers. -/
theorem trod_leA (h : DataW.trod enc Try.prog w base (fun _ => true) held fuel 138 cs = some x) : ∃ q : Le, cs = q.cs ∧ HoldsN w q.sa q.sl q.sc q.co ∧ q.okA ∧ ((x.1.weights Try.prog 138).all (· ≤ reachBytes) = true → q.sc * 8 ≤ 140737488351232) := by
  obtain ⟨xs, n, _, hxe, hl, hx, hf⟩ := DataW.trod_struct Try.underlying138 h
  have hc : Try.prog.cellsOf 138 = 8 := by kernel_rfl
  have hc1 : Try.prog.cellsOf 2 = 1 := by kernel_rfl
  have hc2 : Try.prog.cellsOf 3 = 1 := by kernel_rfl
  have hc3 : Try.prog.cellsOf 28 = 1 := by kernel_rfl
  have hc4 : Try.prog.cellsOf 4 = 1 := by kernel_rfl
  rw [hc] at hl
  match cs, hl with
  | [c0, c1, c2, c3, c4, c5, c6, c7], _ =>
    have f0 := hf 0 _ rfl
    have f1 := hf 1 _ rfl
    have f2 := hf 2 _ rfl
    have f3 := hf 3 _ rfl
    have f4 := hf 4 _ rfl
    have f5 := hf 5 _ rfl
    have f6 := hf 6 _ rfl
    have f7 := hf 7 _ rfl
    simp only [List.getElem_toArray, List.getElem_cons_zero, List.getElem_cons_succ] at f0 f1 f2 f3 f4 f5 f6 f7
    rw [hc2] at f0 f1 f2
    rw [hc3] at f3
    rw [hc1] at f4 f5 f6
    rw [hc4] at f7
    have hxs : xs.length = 8 := by rw [hx]; rfl
    rw [List.getElem?_eq_getElem (by omega)] at f0 f1 f2 f3 f4 f5 f6 f7
    obtain ⟨a0, e0, _, w0⟩ := DataW.trod_int Try.underlying3 f0
    obtain ⟨a1, e1, _, w1⟩ := DataW.trod_int Try.underlying3 f1
    obtain ⟨a2, e2, _, w2⟩ := DataW.trod_int Try.underlying3 f2
    obtain ⟨a4, e4, _, w4⟩ := DataW.trod_int Try.underlying2 f4
    obtain ⟨a5, e5, _, w5⟩ := DataW.trod_int Try.underlying2 f5
    obtain ⟨a6, e6, _, w6⟩ := DataW.trod_int Try.underlying2 f6
    obtain ⟨a7, e7, _⟩ := DataW.trod_bool Try.underlying4 f7
    simp at e0 e1 e2 e4 e5 e6 e7
    subst e0 e1 e2 e4 e5 e6 e7
    rcases open_ints Try.underlying28 Try.underlying3 hc2 f3 with ⟨e3, _⟩ | ⟨ad, len, cap, zs, e3, _, h1, h2, h3, h4, h5, h6⟩
    · simp at e3
      subst e3
      exact ⟨⟨a0, a1, a2, none, 0, 0, a4, a5, a6, a7, []⟩, rfl, ⟨rfl, Nat.le_refl 0, Nat.zero_le _, fun _ => ⟨rfl, rfl⟩, fun h => absurd h (Nat.lt_irrefl 0)⟩, ⟨⟨bounds_i64 w0, bounds_i64 w1, bounds_i64 w2, bounds_i64 w4, bounds_i64 w5, bounds_i64 w6⟩, fun z hz => by cases hz⟩, fun _ => by simp⟩
    · simp at e3
      subst e3
      simp only [if_true] at h3
      refine ⟨⟨a0, a1, a2, some ad, len, cap, a4, a5, a6, a7, zs.take len⟩, rfl, holds_ints h1 h2 h3 h5, ⟨⟨bounds_i64 w0, bounds_i64 w1, bounds_i64 w2, bounds_i64 w4, bounds_i64 w5, bounds_i64 w6⟩, fun z hz => bounds_i64 (h6 z (List.mem_of_mem_take hz))⟩, fun hw => ?_⟩
      have hm : cap * 8 ∈ x.1.weights Try.prog 138 := by
        rw [hxe]
        simp only [DataW.weights, Try.underlying138]
        refine DataW.weights_mem_each (j := 3) (t := 28) (d := xs[3].1) rfl (by rw [List.getElem?_map, List.getElem?_eq_getElem (by omega)]; rfl) _ ?_
        rw [h4]
        simp only [DataW.weights, Try.underlying28]
        have hb : Try.prog.bytesOf 3 = 8 := by kernel_rfl
        rw [hb]
        have hlen : (lits (H := H) IntKind.i64 (zs.take len)).length + (lits (H := H) IntKind.i64 (zs.drop len)).length = cap := by
          simp [lits]; omega
        rw [hlen]
        exact List.mem_cons_self
      exact reach_mem hw hm
instance : Inhabited Q7 := ⟨⟨0, 0, 0, 0, 0, 0, 0⟩⟩
instance : Inhabited N5 := ⟨⟨0, 0, 0, 0, 0⟩⟩
instance : Inhabited T7 := ⟨⟨0, 0, 0, 0, 0, none, 0, 0, 0, []⟩⟩
instance : Inhabited H2 := ⟨⟨0, 0⟩⟩
/-- A list of leases, of tasks, of queues, of nodes, of hungers. -/
theorem rows_le (hf : DataW.trod enc Try.prog w base (fun _ => true) held fuel 44 cs = some x) : ∃ (a : Option Addr) (len cap : Nat) (l : List Le), cs = [.slice a len cap] ∧ HoldsE 8 Le.cs w a len cap l ∧ LeAll w l ∧ ((x.1.weights Try.prog 44).all (· ≤ reachBytes) = true → cap * 80 ≤ 140737488351232 ∧ ∀ q ∈ l, q.sc * 8 ≤ 140737488351232) := by
  have hb : Try.prog.bytesOf 138 = 80 := by kernel_rfl
  obtain ⟨a, len, cap, l, h1, h2, h3, h4⟩ := rows_open (ok := fun D (q : Le) => (HoldsN w q.sa q.sl q.sc q.co ∧ q.okA) ∧ ((D.weights Try.prog 138).all (· ≤ reachBytes) = true → q.sc * 8 ≤ 140737488351232)) Try.underlying44 (by kernel_rfl) Le.cs_len (by decide) (fun _ _ _ h => by obtain ⟨q, a, b, c, d⟩ := trod_leA h; exact ⟨q, a, ⟨b, c⟩, d⟩) hf
  refine ⟨a, len, cap, l, h1, h2, (fun q hq => by obtain ⟨D, hD, _⟩ := h3 q hq; exact hD.1), fun hw => ⟨?_, fun q hq => ?_⟩⟩
  · rcases h4 with rfl | h4
    · simp
    · rw [hb] at h4; exact reach_mem hw h4
  · obtain ⟨D, hD, hn⟩ := h3 q hq
    exact hD.2 (List.all_eq_true.2 fun n hn' => (List.all_eq_true.1 hw) n (hn n hn'))
theorem rows_ta (hf : DataW.trod enc Try.prog w base (fun _ => true) held fuel 51 cs = some x) : ∃ (a : Option Addr) (len cap : Nat) (l : List T7), cs = [.slice a len cap] ∧ HoldsE 7 T7.cs w a len cap l ∧ TaAll w l ∧ ((x.1.weights Try.prog 51).all (· ≤ reachBytes) = true → cap * 72 ≤ 140737488351232 ∧ ∀ q ∈ l, q.sc * 8 ≤ 140737488351232) := by
  have hb : Try.prog.bytesOf 30 = 72 := by kernel_rfl
  obtain ⟨a, len, cap, l, h1, h2, h3, h4⟩ := rows_open (ok := fun D (q : T7) => (HoldsN w q.sa q.sl q.sc q.tk ∧ q.ok) ∧ ((D.weights Try.prog 30).all (· ≤ reachBytes) = true → q.sc * 8 ≤ 140737488351232)) Try.underlying51 (by kernel_rfl) T7.cs_len (by decide) (fun _ _ _ h => by obtain ⟨q, a, b, c, d⟩ := trod_t7 h; exact ⟨q, a, ⟨b, c⟩, d⟩) hf
  refine ⟨a, len, cap, l, h1, h2, (fun q hq => by obtain ⟨D, hD, _⟩ := h3 q hq; exact hD.1), fun hw => ⟨?_, fun q hq => ?_⟩⟩
  · rcases h4 with rfl | h4
    · simp
    · rw [hb] at h4; exact reach_mem hw h4
  · obtain ⟨D, hD, hn⟩ := h3 q hq
    exact hD.2 (List.all_eq_true.2 fun n hn' => (List.all_eq_true.1 hw) n (hn n hn'))
theorem rows_q7 (hf : DataW.trod enc Try.prog w base (fun _ => true) held fuel 49 cs = some x) : ∃ (a : Option Addr) (len cap : Nat) (l : List Q7), cs = [.slice a len cap] ∧ HoldsE 7 Q7.cs w a len cap l ∧ (∀ q ∈ l, q.ok) ∧ ((x.1.weights Try.prog 49).all (· ≤ reachBytes) = true → cap * 56 ≤ 140737488351232) := by
  have hb : Try.prog.bytesOf 25 = 56 := by kernel_rfl
  obtain ⟨a, len, cap, l, h1, h2, h3, h4⟩ := rows_open (ok := fun _ (q : Q7) => q.ok) Try.underlying49 (by kernel_rfl) Q7.cs_len (by decide) (fun _ _ _ h => trod_q7 h) hf
  refine ⟨a, len, cap, l, h1, h2, (fun q hq => by obtain ⟨D, hD, _⟩ := h3 q hq; exact hD), fun hw => ?_⟩
  rcases h4 with rfl | h4
  · simp
  · rw [hb] at h4; exact reach_mem hw h4
theorem rows_n5 (hf : DataW.trod enc Try.prog w base (fun _ => true) held fuel 50 cs = some x) : ∃ (a : Option Addr) (len cap : Nat) (l : List N5), cs = [.slice a len cap] ∧ HoldsE 5 N5.cs w a len cap l ∧ (∀ q ∈ l, q.ok) ∧ ((x.1.weights Try.prog 50).all (· ≤ reachBytes) = true → cap * 40 ≤ 140737488351232) := by
  have hb : Try.prog.bytesOf 27 = 40 := by kernel_rfl
  obtain ⟨a, len, cap, l, h1, h2, h3, h4⟩ := rows_open (ok := fun _ (q : N5) => q.ok) Try.underlying50 (by kernel_rfl) N5.cs_len (by decide) (fun _ _ _ h => trod_n5 h) hf
  refine ⟨a, len, cap, l, h1, h2, (fun q hq => by obtain ⟨D, hD, _⟩ := h3 q hq; exact hD), fun hw => ?_⟩
  rcases h4 with rfl | h4
  · simp
  · rw [hb] at h4; exact reach_mem hw h4
theorem rows_h2 (hf : DataW.trod enc Try.prog w base (fun _ => true) held fuel 52 cs = some x) : ∃ (a : Option Addr) (len cap : Nat) (l : List H2), cs = [.slice a len cap] ∧ HoldsE 2 H2.cs w a len cap l ∧ (∀ q ∈ l, q.ok) ∧ ((x.1.weights Try.prog 52).all (· ≤ reachBytes) = true → cap * 16 ≤ 140737488351232) := by
  have hb : Try.prog.bytesOf 94 = 16 := by kernel_rfl
  obtain ⟨a, len, cap, l, h1, h2, h3, h4⟩ := rows_open (ok := fun _ (q : H2) => q.ok) Try.underlying52 (by kernel_rfl) H2.cs_len (by decide) (fun _ _ _ h => trod_h2 h) hf
  refine ⟨a, len, cap, l, h1, h2, (fun q hq => by obtain ⟨D, hD, _⟩ := h3 q hq; exact hD), fun hw => ?_⟩
  rcases h4 with rfl | h4
  · simp
  · rw [hb] at h4; exact reach_mem hw h4
set_option maxRecDepth 100000 in
/-- An answer that came in. -/
theorem val_answer (hv : Value.okWide Try.prog w r b0 46 v) (h : DataW.Trod enc Try.prog w base (fun _ => true) held 46 v d p) : ∃ (er at' an : Int) (ca : Option Addr) (cn cc : Nat) (co : List Int) (la : Option Addr) (ln lc : Nat) (ls : List Le), v = .agg #[.int .i64 er, .int .i64 at', .int .i64 an, .slice ca cn cc, .slice la ln lc] ∧ (I64 er ∧ I64 at' ∧ I64 an) ∧ HoldsN w ca cn cc co ∧ (∀ z ∈ co, I64 z) ∧ HoldsE 8 Le.cs w la ln lc ls ∧ LeAll w ls := by
  obtain ⟨ca', rfl, hs⟩ := okWide_struct Try.underlying46 hv
  obtain ⟨fuel, hf0⟩ := h
  obtain ⟨xs, n, _, hxe, hl, hx, hf⟩ := DataW.trod_struct Try.underlying46 hf0
  have hc : Try.prog.cellsOf 46 = 5 := by kernel_rfl
  have hcI : Try.prog.cellsOf 3 = 1 := by kernel_rfl
  rw [hc] at hl
  obtain ⟨cs, hcs⟩ : ∃ cs, cs = (Value.agg ca').cells.toList := ⟨_, rfl⟩
  rw [← hcs] at hl hf
  have hca : ca'.toList = cs := hcs.symm
  match cs, hl with
  | [c0, c1, c2, c3, c4], _ =>
    have f0 := hf 0 _ rfl
    have f1 := hf 1 _ rfl
    have f2 := hf 2 _ rfl
    have f3 := hf 3 _ rfl
    have f4 := hf 4 _ rfl
    simp only [List.getElem_toArray, List.getElem_cons_zero, List.getElem_cons_succ] at f0 f1 f2 f3 f4
    have hxs : xs.length = 5 := by rw [hx]; rfl
    rw [show Try.prog.cellsOf 38 = 1 by kernel_rfl] at f0
    rw [show Try.prog.cellsOf 3 = 1 by kernel_rfl] at f1
    rw [show Try.prog.cellsOf 3 = 1 by kernel_rfl] at f2
    rw [show Try.prog.cellsOf 28 = 1 by kernel_rfl] at f3
    rw [show Try.prog.cellsOf 44 = 1 by kernel_rfl] at f4
    rw [List.getElem?_eq_getElem (by omega)] at f0 f1 f2 f3 f4
    obtain ⟨er, e0, _, w0⟩ := DataW.trod_int Try.underlying38 f0
    obtain ⟨at', e1, _, w1⟩ := DataW.trod_int Try.underlying3 f1
    obtain ⟨an, e2, _, w2⟩ := DataW.trod_int Try.underlying3 f2
    obtain ⟨ca, cn, cc, co, e3, h3, k3⟩ : ∃ (a : Option Addr) (n c : Nat) (l : List Int), [c3] = [Value.slice a n c] ∧ HoldsN w a n c l ∧ ∀ z ∈ l, I64 z := by
      rcases open_ints Try.underlying28 Try.underlying3 hcI f3 with ⟨e, _⟩ | ⟨ad, len, cap, zs, e, _, h1, h2, h3, h4, h5, h6⟩
      · exact ⟨none, 0, 0, [], e, ⟨rfl, Nat.le_refl 0, Nat.zero_le _, fun _ => ⟨rfl, rfl⟩, fun h => absurd h (Nat.lt_irrefl 0)⟩, fun z hz => by cases hz⟩
      · simp only [if_true] at h3
        exact ⟨some ad, len, cap, zs.take len, e, holds_ints h1 h2 h3 h5, fun z hz => bounds_i64 (h6 z (List.mem_of_mem_take hz))⟩
    obtain ⟨la, ln, lc, ls, e4, h4, k4, z4⟩ := rows_le f4
    simp at e0 e1 e2 e3 e4
    subst e0 e1 e2 e3 e4
    exact ⟨er, at', an, ca, cn, cc, co, la, ln, lc, ls, congrArg Value.agg (Array.toList_inj.1 hca), ⟨bounds_i64 w0, bounds_i64 w1, bounds_i64 w2⟩, h3, k3, h4, k4⟩
set_option maxRecDepth 100000 in
/-- A state that came in. -/
theorem val_state (hv : Value.okWide Try.prog w r b0 54 v) (h : DataW.Trod enc Try.prog w base (fun _ => true) held 54 v d p) : ∃ (lo pa no : Int) (qa : Option Addr) (qn qc : Nat) (qs : List Q7) (na : Option Addr) (nn nc : Nat) (ns : List N5) (ta : Option Addr) (tn tc : Nat) (ts : List T7) (la : Option Addr) (ln lc : Nat) (ls : List Le) (ha : Option Addr) (hn hc : Nat) (hs : List H2), v = .agg #[.int .i64 lo, .int .i64 pa, .int .i64 no, .slice qa qn qc, .slice na nn nc, .slice ta tn tc, .slice la ln lc, .slice ha hn hc] ∧ (I64 lo ∧ I64 pa ∧ I64 no) ∧ (HoldsE 7 Q7.cs w qa qn qc qs ∧ ∀ x ∈ qs, x.ok) ∧ (HoldsE 5 N5.cs w na nn nc ns ∧ ∀ x ∈ ns, x.ok) ∧ (HoldsE 7 T7.cs w ta tn tc ts ∧ TaAll w ts) ∧ (HoldsE 8 Le.cs w la ln lc ls ∧ LeAll w ls) ∧ (HoldsE 2 H2.cs w ha hn hc hs ∧ ∀ x ∈ hs, x.ok) ∧ ((d.weights Try.prog 54).all (· ≤ reachBytes) = true → qc * 56 ≤ 140737488351232 ∧ nc * 40 ≤ 140737488351232 ∧ (tc * 72 ≤ 140737488351232 ∧ ∀ q ∈ ts, q.sc * 8 ≤ 140737488351232) ∧ (lc * 80 ≤ 140737488351232 ∧ ∀ q ∈ ls, q.sc * 8 ≤ 140737488351232) ∧ hc * 16 ≤ 140737488351232) := by
  obtain ⟨ca', rfl, hs⟩ := okWide_struct Try.underlying54 hv
  obtain ⟨fuel, hf0⟩ := h
  obtain ⟨xs, n, _, hxe, hl, hx, hf⟩ := DataW.trod_struct Try.underlying54 hf0
  have hc : Try.prog.cellsOf 54 = 8 := by kernel_rfl
  have hcI : Try.prog.cellsOf 3 = 1 := by kernel_rfl
  rw [hc] at hl
  obtain ⟨cs, hcs⟩ : ∃ cs, cs = (Value.agg ca').cells.toList := ⟨_, rfl⟩
  rw [← hcs] at hl hf
  have hca : ca'.toList = cs := hcs.symm
  match cs, hl with
  | [c0, c1, c2, c3, c4, c5, c6, c7], _ =>
    have f0 := hf 0 _ rfl
    have f1 := hf 1 _ rfl
    have f2 := hf 2 _ rfl
    have f3 := hf 3 _ rfl
    have f4 := hf 4 _ rfl
    have f5 := hf 5 _ rfl
    have f6 := hf 6 _ rfl
    have f7 := hf 7 _ rfl
    simp only [List.getElem_toArray, List.getElem_cons_zero, List.getElem_cons_succ] at f0 f1 f2 f3 f4 f5 f6 f7
    have hxs : xs.length = 8 := by rw [hx]; rfl
    rw [show Try.prog.cellsOf 2 = 1 by kernel_rfl] at f0
    rw [show Try.prog.cellsOf 2 = 1 by kernel_rfl] at f1
    rw [show Try.prog.cellsOf 2 = 1 by kernel_rfl] at f2
    rw [show Try.prog.cellsOf 49 = 1 by kernel_rfl] at f3
    rw [show Try.prog.cellsOf 50 = 1 by kernel_rfl] at f4
    rw [show Try.prog.cellsOf 51 = 1 by kernel_rfl] at f5
    rw [show Try.prog.cellsOf 44 = 1 by kernel_rfl] at f6
    rw [show Try.prog.cellsOf 52 = 1 by kernel_rfl] at f7
    rw [List.getElem?_eq_getElem (by omega)] at f0 f1 f2 f3 f4 f5 f6 f7
    obtain ⟨lo, e0, _, w0⟩ := DataW.trod_int Try.underlying2 f0
    obtain ⟨pa, e1, _, w1⟩ := DataW.trod_int Try.underlying2 f1
    obtain ⟨no, e2, _, w2⟩ := DataW.trod_int Try.underlying2 f2
    obtain ⟨qa, qn, qc, qs, e3, h3, k3, z3⟩ := rows_q7 f3
    obtain ⟨na, nn, nc, ns, e4, h4, k4, z4⟩ := rows_n5 f4
    obtain ⟨ta, tn, tc, ts, e5, h5, k5, z5⟩ := rows_ta f5
    obtain ⟨la, ln, lc, ls, e6, h6, k6, z6⟩ := rows_le f6
    obtain ⟨ha, hn, hc, hs, e7, h7, k7, z7⟩ := rows_h2 f7
    simp at e0 e1 e2 e3 e4 e5 e6 e7
    subst e0 e1 e2 e3 e4 e5 e6 e7
    have q3 : (d.weights Try.prog 54).all (· ≤ reachBytes) = true → (xs[3].1.weights Try.prog 49).all (· ≤ reachBytes) = true := fun hw => List.all_eq_true.2 fun z hz => (List.all_eq_true.1 hw) z (by
      have hd : d = _ := congrArg Prod.fst hxe
      rw [hd]
      simp only [DataW.weights, Try.underlying54]
      exact DataW.weights_mem_each (j := 3) (t := 49) (d := xs[3].1) rfl (by rw [List.getElem?_map, List.getElem?_eq_getElem (by omega)]; rfl) _ hz)
    have q4 : (d.weights Try.prog 54).all (· ≤ reachBytes) = true → (xs[4].1.weights Try.prog 50).all (· ≤ reachBytes) = true := fun hw => List.all_eq_true.2 fun z hz => (List.all_eq_true.1 hw) z (by
      have hd : d = _ := congrArg Prod.fst hxe
      rw [hd]
      simp only [DataW.weights, Try.underlying54]
      exact DataW.weights_mem_each (j := 4) (t := 50) (d := xs[4].1) rfl (by rw [List.getElem?_map, List.getElem?_eq_getElem (by omega)]; rfl) _ hz)
    have q5 : (d.weights Try.prog 54).all (· ≤ reachBytes) = true → (xs[5].1.weights Try.prog 51).all (· ≤ reachBytes) = true := fun hw => List.all_eq_true.2 fun z hz => (List.all_eq_true.1 hw) z (by
      have hd : d = _ := congrArg Prod.fst hxe
      rw [hd]
      simp only [DataW.weights, Try.underlying54]
      exact DataW.weights_mem_each (j := 5) (t := 51) (d := xs[5].1) rfl (by rw [List.getElem?_map, List.getElem?_eq_getElem (by omega)]; rfl) _ hz)
    have q6 : (d.weights Try.prog 54).all (· ≤ reachBytes) = true → (xs[6].1.weights Try.prog 44).all (· ≤ reachBytes) = true := fun hw => List.all_eq_true.2 fun z hz => (List.all_eq_true.1 hw) z (by
      have hd : d = _ := congrArg Prod.fst hxe
      rw [hd]
      simp only [DataW.weights, Try.underlying54]
      exact DataW.weights_mem_each (j := 6) (t := 44) (d := xs[6].1) rfl (by rw [List.getElem?_map, List.getElem?_eq_getElem (by omega)]; rfl) _ hz)
    have q7 : (d.weights Try.prog 54).all (· ≤ reachBytes) = true → (xs[7].1.weights Try.prog 52).all (· ≤ reachBytes) = true := fun hw => List.all_eq_true.2 fun z hz => (List.all_eq_true.1 hw) z (by
      have hd : d = _ := congrArg Prod.fst hxe
      rw [hd]
      simp only [DataW.weights, Try.underlying54]
      exact DataW.weights_mem_each (j := 7) (t := 52) (d := xs[7].1) rfl (by rw [List.getElem?_map, List.getElem?_eq_getElem (by omega)]; rfl) _ hz)
    exact ⟨lo, pa, no, qa, qn, qc, qs, na, nn, nc, ns, ta, tn, tc, ts, la, ln, lc, ls, ha, hn, hc, hs, congrArg Value.agg (Array.toList_inj.1 hca), ⟨bounds_i64 w0, bounds_i64 w1, bounds_i64 w2⟩, ⟨h3, k3⟩, ⟨h4, k4⟩, ⟨h5, k5⟩, ⟨h6, k6⟩, ⟨h7, k7⟩, fun hw => ⟨z3 (q3 hw), z4 (q4 hw), z5 (q5 hw), z6 (q6 hw), z7 (q7 hw)⟩⟩
end
end Go.Proofs.Ythkbddnkcljjpaa
