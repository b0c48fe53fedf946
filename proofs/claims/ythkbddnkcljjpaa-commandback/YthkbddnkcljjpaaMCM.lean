/-
  What was written is read; bytes that are cut short are told so: numbers, lists, tasks, commands, entries. Plain mathematics.
  Unlike entries have unlike bytes. Plain mathematics.
-/
import Derived.Test.YthkbddnkcljjpaaSQ
import Derived.Test.YthkbddnkcljjpaaMCX
namespace Go.Proofs.Ythkbddnkcljjpaa
open Go.RowKit Go.Deep
set_option linter.unusedVariables false
set_option linter.unusedSimpArgs false

theorem rd_pre {l F pre suf : List Int} {x : Int} (hF : F = pre ++ (numB x ++ suf)) (hl : l <+: F) (x0 : 0 ≤ x) (x1 : x ≤ 18446744073709551615) (hp : pre.length ≤ l.length) :
    rd l pre.length = if pre.length + (1 + shelf x) ≤ l.length then (x, (pre.length : Int) + (1 + shelf x), 0) else (0, (l.length : Int), 5) := by
  by_cases h : pre.length + (1 + shelf x) ≤ l.length
  · rw [if_pos h]
    have h1 : pre ++ numB x <+: F := ⟨suf, by rw [hF, List.append_assoc]⟩
    obtain ⟨suf', e⟩ := List.prefix_of_prefix_length_le h1 hl (by simp [numB_len]; omega)
    rw [← e, List.append_assoc]
    exact rd_numB pre suf' x x0 x1
  · rw [if_neg h]
    unfold rd
    rw [if_neg (by omega)]
    by_cases he : pre.length = l.length
    · rw [if_pos (by omega)]
    · rw [if_neg (by omega)]
      have hg : l[((pre.length : Nat) : Int).toNat]?.getD 0 = (numB x)[0]?.getD 0 := by
        obtain ⟨t, e⟩ := hl
        have : F[pre.length]? = l[pre.length]? := by rw [← e, List.getElem?_append_left (by omega)]
        rw [Int.toNat_natCast, ← this, hF, List.getElem?_append_right (Nat.le_refl _), Nat.sub_self, List.getElem?_append_left (by rw [numB_len]; omega)]
      rw [hg]
      have hs : shelf x ≠ 0 := by intro e; omega
      have e1 : numB x = (191 + (shelf x : Int)) :: be (shelf x) (x - beg (shelf x)) := by unfold numB; rw [if_neg hs]
      have h0 : (numB x)[0]?.getD 0 = 191 + (shelf x : Int) := by rw [e1]; rfl
      have := shelf_le x
      rw [h0, if_neg (by omega), if_neg (by omega), if_pos (by omega)]

/-- The reader stands at a place of the whole, or has met the end of what there is. -/
def StR (l : List Int) (s : Int × Int) (p : Nat) : Prop := (s.2 = 0 ∧ s.1 = p ∧ p ≤ l.length) ∨ (s.2 = 5 ∧ s.1 = l.length ∧ l.length < p)
theorem tkI_keep {l : List Int} {A E : Int} (h : (tkI l A E).2.2 = 0) : E = 0 := by
  unfold tkI at h
  split at h
  · assumption
  · exact h
theorem upT_keep {l : List Int} {A E m f : Int} (hf : f ≠ 0) (h : (upT l A E m f).2.2 = 0) : E = 0 := by
  unfold upT at h
  split at h
  · assumption
  · exact h
theorem tkI_st {l F pre suf : List Int} {x : Int} {s : Int × Int} (hF : F = pre ++ (numB (zig x) ++ suf)) (hl : l <+: F) (hx : I64 x) (h : StR l s pre.length) :
    StR l (tkI l s.1 s.2).2 (pre ++ numB (zig x)).length ∧ ((tkI l s.1 s.2).2.2 = 0 → (tkI l s.1 s.2).1 = x) := by
  have z := zig_bd hx
  rcases h with ⟨h1, h2, h3⟩ | ⟨h1, h2, h3⟩
  · have e := rd_pre hF hl z.1 z.2 h3
    unfold tkI
    rw [if_pos h1, h2, e]
    split
    · refine ⟨.inl ⟨rfl, ?_, ?_⟩, fun _ => zag_zig x⟩
      · simp only [List.length_append, numB_len]; omega
      · simp only [List.length_append, numB_len]; omega
    · refine ⟨.inr ⟨rfl, rfl, ?_⟩, fun h => by simp at h⟩
      simp only [List.length_append, numB_len]; omega
  · unfold tkI
    rw [if_neg (by omega)]
    refine ⟨.inr ⟨h1, h2, ?_⟩, fun h => by simp only at h; omega⟩
    simp only [List.length_append]; omega
theorem upT_st {l F pre suf : List Int} {x m f : Int} {s : Int × Int} (hF : F = pre ++ (numB x ++ suf)) (hl : l <+: F) (x0 : 0 ≤ x) (x1 : x ≤ m) (hm : m ≤ 18446744073709551615) (h : StR l s pre.length) :
    StR l (upT l s.1 s.2 m f).2 (pre ++ numB x).length ∧ ((upT l s.1 s.2 m f).2.2 = 0 → (upT l s.1 s.2 m f).1 = x) ∧ ((upT l s.1 s.2 m f).2.2 ≠ 0 → (upT l s.1 s.2 m f).1 = 0) := by
  rcases h with ⟨h1, h2, h3⟩ | ⟨h1, h2, h3⟩
  · have e := rd_pre hF hl x0 (by omega) h3
    unfold upT
    rw [if_pos h1, h2, e]
    split
    · rw [if_neg (by show ¬ m < x; omega)]
      refine ⟨.inl ⟨rfl, ?_, ?_⟩, fun _ => rfl, fun h => absurd rfl h⟩
      · simp only [List.length_append, numB_len]; omega
      · simp only [List.length_append, numB_len]; omega
    · rw [if_neg (by show ¬ m < 0; omega)]
      refine ⟨.inr ⟨rfl, rfl, ?_⟩, fun h => by simp at h, fun _ => rfl⟩
      simp only [List.length_append, numB_len]; omega
  · unfold upT
    rw [if_neg (by omega)]
    refine ⟨.inr ⟨h1, h2, ?_⟩, fun h => by simp only at h; omega, fun _ => rfl⟩
    simp only [List.length_append]; omega

/-- Numbers one behind another. -/
theorem tkc_keep {l : List Int} {A E : Int} : ∀ (k j : Nat), j ≤ k → (tkc l A E k).2.2 = 0 → (tkc l A E j).2.2 = 0
  | 0, j, hj, h => by obtain rfl : j = 0 := by omega
                      exact h
  | k + 1, j, hj, h => by
    rcases Nat.eq_or_lt_of_le hj with e | e
    · subst e; exact h
    · exact tkc_keep k j (by omega) (tkI_keep h)
theorem bytesZ_take {xs : List Int} {k : Nat} (h : k < xs.length) : bytesZ xs = bytesZ (xs.take k) ++ (numB (zig xs[k]) ++ bytesZ (xs.drop (k + 1))) := by
  have e : xs = xs.take k ++ xs[k] :: xs.drop (k + 1) := by rw [← List.drop_eq_getElem_cons h, List.take_append_drop]
  conv => lhs; rw [e]
  rw [bytesZ_app]
  rfl
theorem tkc_st {l F pre suf xs : List Int} {A E : Int} (hF : F = pre ++ (bytesZ xs ++ suf)) (hl : l <+: F) (hx : ∀ x ∈ xs, I64 x) (h : StR l (A, E) pre.length) :
    ∀ k (hk : k < xs.length), StR l (tkc l A E k).2 (pre ++ bytesZ (xs.take (k + 1))).length ∧ ((tkc l A E k).2.2 = 0 → (tkc l A E k).1 = xs[k])
  | 0, hk => by
    have e := bytesZ_take hk
    have := tkI_st (s := (A, E)) (pre := pre) (suf := bytesZ (xs.drop 1) ++ suf) (x := xs[0]) (by rw [hF, e]; simp [bytesZ]) hl (hx _ (List.getElem_mem hk)) h
    refine ⟨?_, this.2⟩
    have e2 : bytesZ (xs.take (0 + 1)) = numB (zig xs[0]) := by rw [bytesZ_snoc hk, List.getElem?_eq_getElem hk]; rfl
    rw [e2]; exact this.1
  | k + 1, hk => by
    have ih := tkc_st hF hl hx h k (by omega)
    have e := bytesZ_take hk
    have := tkI_st (s := (tkc l A E k).2) (pre := pre ++ bytesZ (xs.take (k + 1))) (suf := bytesZ (xs.drop (k + 2)) ++ suf) (x := xs[k + 1]) (by rw [hF, e]; simp only [List.append_assoc]) hl (hx _ (List.getElem_mem hk)) ih.1
    refine ⟨?_, this.2⟩
    have e2 : bytesZ (xs.take (k + 1 + 1)) = bytesZ (xs.take (k + 1)) ++ numB (zig xs[k + 1]) := by rw [bytesZ_snoc hk, List.getElem?_eq_getElem hk]; rfl
    rw [e2, ← List.append_assoc]; exact this.1

section
variable {α : Type}
/-- A thing is read, if its bytes are there. -/
def ReadsAt (l F : List Int) (pe : Int → Int → α × Int × Int) (en : α → List Int) (x : α) : Prop :=
  ∀ (pre suf : List Int) (s : Int × Int), F = pre ++ (en x ++ suf) → StR l s pre.length → StR l (pe s.1 s.2).2 (pre ++ en x).length ∧ ((pe s.1 s.2).2.2 = 0 → (pe s.1 s.2).1 = x)
/-- A list, its count ahead. -/
def listE (en : α → List Int) (xs : List α) : List Int := numB (xs.length : Int) ++ xs.flatMap en
theorem flat_take {en : α → List Int} {xs : List α} {k : Nat} (h : k < xs.length) : xs.flatMap en = (xs.take k).flatMap en ++ (en xs[k] ++ (xs.drop (k + 1)).flatMap en) := by
  have e : xs = xs.take k ++ xs[k] :: xs.drop (k + 1) := by rw [← List.drop_eq_getElem_cons h, List.take_append_drop]
  conv => lhs; rw [e]
  rw [List.flatMap_append]
  rfl
theorem flat_snoc {en : α → List Int} {xs : List α} {k : Nat} (h : k < xs.length) : (xs.take (k + 1)).flatMap en = (xs.take k).flatMap en ++ en xs[k] := by
  rw [List.take_add_one, List.getElem?_eq_getElem h]
  simp only [Option.toList_some, List.flatMap_append, List.flatMap_cons, List.flatMap_nil, List.append_nil]
theorem lsS_st {l F pre suf : List Int} {pe : Int → Int → α × Int × Int} {en : α → List Int} {xs : List α} {A E : Int} (hF : F = pre ++ (xs.flatMap en ++ suf)) (hr : ∀ x ∈ xs, ReadsAt l F pe en x) (h : StR l (A, E) pre.length) :
    ∀ k, k ≤ xs.length → StR l (lsS pe A E k) (pre ++ (xs.take k).flatMap en).length
  | 0, _ => by simpa [lsS] using h
  | k + 1, hk => by
    have ih := lsS_st hF hr h k (by omega)
    have := (hr _ (List.getElem_mem (show k < xs.length by omega)) (pre ++ (xs.take k).flatMap en) ((xs.drop (k + 1)).flatMap en ++ suf) (lsS pe A E k) (by rw [hF, flat_take (show k < xs.length by omega)]; simp only [List.append_assoc]) ih).1
    rw [flat_snoc (by omega), ← List.append_assoc]
    exact this
theorem lsV_st {l F pre suf : List Int} {pe : Int → Int → α × Int × Int} {en : α → List Int} {xs : List α} {A E : Int} (hF : F = pre ++ (xs.flatMap en ++ suf)) (hr : ∀ x ∈ xs, ReadsAt l F pe en x) (h : StR l (A, E) pre.length)
    (k : Nat) (hk : k < xs.length) (he : (lsS pe A E (k + 1)).2 = 0) : lsV pe A E k = xs[k] := by
  have ih := lsS_st hF hr h k (by omega)
  exact (hr _ (List.getElem_mem hk) (pre ++ (xs.take k).flatMap en) ((xs.drop (k + 1)).flatMap en ++ suf) (lsS pe A E k) (by rw [hF, flat_take hk]; simp only [List.append_assoc]) ih).2 he
theorem li_st {l F pre suf : List Int} {pe : Int → Int → α × Int × Int} {en : α → List Int} {xs : List α} {s : Int × Int} (hF : F = pre ++ (listE en xs ++ suf)) (hl : l <+: F) (hr : ∀ x ∈ xs, ReadsAt l F pe en x) (hn : xs.length ≤ 1024) (h : StR l s pre.length) :
    StR l (liF pe l s.1 s.2) (pre ++ listE en xs).length ∧ ((liF pe l s.1 s.2).2 = 0 → liL pe l s.1 s.2 = xs) := by
  have hF' : F = pre ++ (numB (xs.length : Int) ++ (xs.flatMap en ++ suf)) := by rw [hF]; simp [listE, List.append_assoc]
  have hF2 : F = (pre ++ numB (xs.length : Int)) ++ (xs.flatMap en ++ suf) := by rw [hF']; simp [List.append_assoc]
  obtain ⟨u1, u2, u3⟩ := upT_st (f := 3) hF' hl (by omega) (show (xs.length : Int) ≤ 1024 by omega) (by omega) h
  unfold liF liL
  generalize hu : upT l s.1 s.2 1024 3 = U at *
  obtain ⟨c, A0, E0⟩ := U
  simp only at u1 u2 u3 ⊢
  have hlen : (pre ++ listE en xs).length = (pre ++ numB (xs.length : Int)).length + (xs.flatMap en).length := by simp [listE]; omega
  by_cases hE : E0 = 0
  · have hc := u2 hE
    subst hc
    have S := lsS_st hF2 hr u1
    have V := lsV_st hF2 hr u1
    have cl := lsC_le pe A0 E0 (xs.length : Int)
    rw [Int.toNat_natCast] at cl
    unfold lsF
    rw [Int.toNat_natCast]
    have NY := lsN_yes pe A0 E0 xs.length 0
    have NO := lsN_no pe A0 E0 xs.length 0
    have hC : lsC pe A0 E0 (xs.length : Int) = lsN pe A0 E0 xs.length 0 := rfl
    by_cases hlt : lsC pe A0 E0 (xs.length : Int) < xs.length
    · rw [if_pos hlt]
      have h1 := S (lsC pe A0 E0 (xs.length : Int) + 1) hlt
      have h2 : (lsS pe A0 E0 (lsC pe A0 E0 (xs.length : Int) + 1)).2 ≠ 0 := by rw [hC]; exact NO (by rw [hC] at hlt; omega)
      refine ⟨?_, fun h => absurd h h2⟩
      rcases h1 with ⟨e, _⟩ | ⟨e1, e2, e3⟩
      · exact absurd e h2
      · refine .inr ⟨e1, e2, ?_⟩
        have hm : ((xs.take (lsC pe A0 E0 (xs.length : Int) + 1)).flatMap en).length ≤ (xs.flatMap en).length := by
          conv => rhs; rw [← List.take_append_drop (lsC pe A0 E0 (xs.length : Int) + 1) xs, List.flatMap_append, List.length_append]
          omega
        rw [hlen]
        rw [List.length_append] at e3
        omega
    · have hce : lsC pe A0 E0 (xs.length : Int) = xs.length := by omega
      rw [if_neg hlt, hce]
      have h1 := S xs.length (Nat.le_refl _)
      rw [List.take_length, List.length_append] at h1
      rw [hlen]
      refine ⟨h1, fun h => ?_⟩
      unfold lsL
      rw [hce]
      apply List.ext_getElem
      · simp
      · intro k h1 h2
        simp only [List.getElem_map, List.getElem_range]
        exact V k h2 (NY k (by omega) (by rw [← hC, hce]; exact h2))
  · have hc := u3 hE
    subst hc
    have e0 : lsC pe A0 E0 0 = 0 := rfl
    unfold lsF
    rw [e0, if_neg (by simp)]
    refine ⟨?_, fun h => absurd h hE⟩
    rcases u1 with ⟨e, _⟩ | ⟨e1, e2, e3⟩
    · exact absurd e hE
    · refine .inr ⟨e1, e2, ?_⟩
      rw [hlen]; omega
end
theorem int_reads {l F : List Int} (hl : l <+: F) {x : Int} (hx : I64 x) : ReadsAt l F (tkI l) (fun x => numB (zig x)) x := fun pre suf s hF h => tkI_st hF hl hx h
theorem listZ_eq {l : List Int} (h : l.length ≤ 1024) : listZ l = listE (fun x => numB (zig x)) l := by
  unfold listZ listE bytesZ
  rw [if_neg (by omega)]
theorem lsN_keep {α : Type} {pe : Int → Int → α × Int × Int} (hk : ∀ A E, (pe A E).2.2 = 0 → E = 0) {A E : Int} : ∀ k, (lsS pe A E k).2 = 0 → E = 0
  | 0, h => h
  | k + 1, h => lsN_keep hk k (hk _ _ h)
theorem liF_keep {α : Type} {pe : Int → Int → α × Int × Int} (hk : ∀ A E, (pe A E).2.2 = 0 → E = 0) {l : List Int} {A E : Int} (h : (liF pe l A E).2 = 0) : E = 0 := by
  unfold liF lsF at h
  split at h
  · exact upT_keep (by omega) (lsN_keep hk _ h)
  · exact upT_keep (by omega) (lsN_keep hk _ h)

/-- A task. -/
theorem ta_st {l F pre suf : List Int} {t1 t2 c m wk st : Int} {tk : List Int} {A E : Int} (hF : F = pre ++ (taskZ t1 t2 c m wk tk st ++ suf)) (hl : l <+: F) (h1 : I64 t1) (h2 : I64 t2) (h3 : I64 c) (h4 : I64 m) (h5 : I64 wk) (h6 : I64 st) (h7 : ∀ x ∈ tk, I64 x) (hn : tk.length ≤ 1024) (h : StR l (A, E) pre.length) :
    StR l (taE l A E).2 (pre ++ taskZ t1 t2 c m wk tk st).length ∧ ((taE l A E).2.2 = 0 → ((tkc l A E 0).1 = t1 ∧ (tkc l A E 1).1 = t2 ∧ (tkc l A E 2).1 = c ∧ (tkc l A E 3).1 = m ∧ (tkc l A E 4).1 = wk) ∧ taL l A E = tk ∧ (taE l A E).1 = st ∧ E = 0) := by
  have T := tkc_st (pre := pre) (xs := [t1, t2, c, m, wk]) (suf := listZ tk ++ (bytesZ [st] ++ suf)) (by rw [hF]; unfold taskZ; simp only [List.append_assoc]) hl (by intro x hx; simp only [List.mem_cons, List.not_mem_nil, or_false] at hx; rcases hx with rfl | rfl | rfl | rfl | rfl <;> assumption) h
  have T4 := T 4 (by simp)
  have e5 : bytesZ (([t1, t2, c, m, wk] : List Int).take (4 + 1)) = bytesZ [t1, t2, c, m, wk] := rfl
  rw [e5] at T4
  have LI := li_st (pe := tkI l) (en := fun x => numB (zig x)) (xs := tk) (s := (tkc l A E 4).2) (pre := pre ++ bytesZ [t1, t2, c, m, wk]) (suf := bytesZ [st] ++ suf) (by rw [hF, ← listZ_eq hn]; unfold taskZ; simp only [List.append_assoc]) hl (fun x hx => int_reads hl (h7 x hx)) hn T4.1
  rw [← listZ_eq hn] at LI
  have ST := tkI_st (l := l) (F := F) (x := st) (s := taB l A E) (pre := pre ++ bytesZ [t1, t2, c, m, wk] ++ listZ tk) (suf := suf) (by rw [hF]; unfold taskZ; simp [List.append_assoc, bytesZ]) hl h6 LI.1
  have e6 : pre ++ bytesZ [t1, t2, c, m, wk] ++ listZ tk ++ numB (zig st) = pre ++ taskZ t1 t2 c m wk tk st := by unfold taskZ; simp [List.append_assoc, bytesZ]
  rw [e6] at ST
  refine ⟨ST.1, fun hz => ?_⟩
  have k1 : (taB l A E).2 = 0 := tkI_keep hz
  have k2 : (tkc l A E 4).2.2 = 0 := liF_keep (pe := tkI l) (fun _ _ h => tkI_keep h) k1
  refine ⟨⟨(T 0 (by simp)).2 (tkc_keep 4 0 (by omega) k2), (T 1 (by simp)).2 (tkc_keep 4 1 (by omega) k2), (T 2 (by simp)).2 (tkc_keep 4 2 (by omega) k2), (T 3 (by simp)).2 (tkc_keep 4 3 (by omega) k2), T4.2 k2⟩, LI.2 k1, ST.2 hz, ?_⟩
  exact tkI_keep (tkc_keep 4 0 (by omega) k2)
theorem cmN_keep {l : List Int} {A E : Int} {k j : Nat} (hj : j ≤ k) (h : (cmN l A E k).2.2 = 0) : (cmN l A E j).2.2 = 0 := tkc_keep k j hj h
/-- A command. -/
theorem cm_st {l F pre suf : List Int} {kd t1 t2 c m wk st : Int} {xs tk : List Int} {A E : Int} (hF : F = pre ++ (numB kd ++ (bytesZ xs ++ (taskZ t1 t2 c m wk tk st ++ suf)))) (hxl : xs.length = 16) (hl : l <+: F) (h0 : 0 ≤ kd) (h0' : kd ≤ 9223372036854775807) (hx : ∀ x ∈ xs, I64 x) (h1 : I64 t1) (h2 : I64 t2) (h3 : I64 c) (h4 : I64 m) (h5 : I64 wk) (h6 : I64 st) (h7 : ∀ x ∈ tk, I64 x) (hn : tk.length ≤ 1024) (h : StR l (A, E) pre.length) :
    StR l (cmE l A E).2 (pre ++ (numB kd ++ (bytesZ xs ++ taskZ t1 t2 c m wk tk st))).length ∧ ((cmE l A E).2.2 = 0 → (cmK l A E).1 = kd ∧ (∀ k (hk : k < xs.length), (cmN l A E k).1 = xs[k]) ∧ ((cmN l A E 16).1 = t1 ∧ (cmN l A E 17).1 = t2 ∧ (cmN l A E 18).1 = c ∧ (cmN l A E 19).1 = m ∧ (cmN l A E 20).1 = wk) ∧ cmL l A E = tk ∧ (cmE l A E).1 = st ∧ E = 0) := by
  have K := upT_st (f := 4) (s := (A, E)) hF hl h0 h0' (by omega) h
  have T := tkc_st (l := l) (F := F) (pre := pre ++ numB kd) (xs := xs) (suf := taskZ t1 t2 c m wk tk st ++ suf) (A := (cmK l A E).2.1) (E := (cmK l A E).2.2) (by rw [hF]; simp only [List.append_assoc]) hl hx K.1
  have T15 := T 15 (by omega)
  have e5 : bytesZ (xs.take (15 + 1)) = bytesZ xs := by rw [List.take_of_length_le (by omega)]
  rw [e5] at T15
  have TA := ta_st (l := l) (F := F) (pre := pre ++ numB kd ++ bytesZ xs) (suf := suf) (A := (cmN l A E 15).2.1) (E := (cmN l A E 15).2.2) (by rw [hF]; simp only [List.append_assoc]) hl h1 h2 h3 h4 h5 h6 h7 hn T15.1
  refine ⟨by have z := TA.1; simp only [List.append_assoc] at z; exact z, fun hz => ?_⟩
  obtain ⟨⟨a0, a1, a2, a3, a4⟩, b, d, e⟩ := TA.2 hz
  rw [cmN_add] at a0 a1 a2 a3 a4
  have e' : (cmN l A E 15).2.2 = 0 := e
  have k0 : (cmK l A E).2.2 = 0 := tkI_keep (cmN_keep (show 0 ≤ 15 by omega) e')
  exact ⟨K.2.1 k0, fun k hk => (T k hk).2 (cmN_keep (show k ≤ 15 by omega) e'), ⟨a0, a1, a2, a3, a4⟩, b, d, upT_keep (by omega) k0⟩
/-- An entry's bytes, by its numbers. -/
def entB (gs : List Int) (kd : Int) (xs : List Int) (t1 t2 c m wk : Int) (tk : List Int) (st : Int) : List Int := bytesZ gs ++ (numB kd ++ (bytesZ xs ++ taskZ t1 t2 c m wk tk st))
theorem en_st {l F suf : List Int} {kd t1 t2 c m wk st : Int} {gs xs tk : List Int} (hF : F = entB gs kd xs t1 t2 c m wk tk st ++ suf) (hal : gs.length = 3) (hxl : xs.length = 16) (hl : l <+: F) (ha : ∀ x ∈ gs, I64 x) (h0 : 0 ≤ kd) (h0' : kd ≤ 9223372036854775807) (hx : ∀ x ∈ xs, I64 x) (h1 : I64 t1) (h2 : I64 t2) (h3 : I64 c) (h4 : I64 m) (h5 : I64 wk) (h6 : I64 st) (h7 : ∀ x ∈ tk, I64 x) (hn : tk.length ≤ 1024) :
    StR l (enE l 0 0).2 (entB gs kd xs t1 t2 c m wk tk st).length ∧ ((enE l 0 0).2.2 = 0 → (∀ k (hk : k < gs.length), (tkc l 0 0 k).1 = gs[k]) ∧ enK l 0 0 = kd ∧ (∀ k (hk : k < xs.length), (enN l 0 0 k).1 = xs[k]) ∧ ((enN l 0 0 16).1 = t1 ∧ (enN l 0 0 17).1 = t2 ∧ (enN l 0 0 18).1 = c ∧ (enN l 0 0 19).1 = m ∧ (enN l 0 0 20).1 = wk) ∧ enL l 0 0 = tk ∧ (enE l 0 0).1 = st) := by
  have T := tkc_st (l := l) (F := F) (pre := []) (xs := gs) (suf := numB kd ++ (bytesZ xs ++ taskZ t1 t2 c m wk tk st) ++ suf) (A := 0) (E := 0) (by rw [hF]; unfold entB; simp only [List.append_assoc, List.nil_append]) hl ha (.inl ⟨rfl, rfl, by simp⟩)
  have T2 := T 2 (by omega)
  have e5 : bytesZ (gs.take (2 + 1)) = bytesZ gs := by rw [List.take_of_length_le (by omega)]
  rw [e5] at T2
  have C := cm_st (l := l) (F := F) (pre := [] ++ bytesZ gs) (suf := suf) (A := (tkc l 0 0 2).2.1) (E := (tkc l 0 0 2).2.2) (by rw [hF]; unfold entB; simp only [List.append_assoc, List.nil_append]) hxl hl h0 h0' hx h1 h2 h3 h4 h5 h6 h7 hn T2.1
  refine ⟨by have z := C.1; simp only [List.nil_append] at z; exact z, fun hz => ?_⟩
  obtain ⟨a, b, d, e, f, g⟩ := C.2 hz
  exact ⟨fun k hk => (T k hk).2 (tkc_keep 2 k (by omega) g), a, b, d, e, f⟩
end Go.Proofs.Ythkbddnkcljjpaa

namespace Go.Proofs.Ythkbddnkcljjpaa
open Go.RowKit Go.Deep
set_option linter.unusedVariables false
set_option linter.unusedSimpArgs false

theorem encE_zero {tn : Nat} {kd : Int} (h : encE tn kd = 0) : tn ≤ 1024 ∧ 0 ≤ kd := by
  unfold encE at h
  split at h
  · cases h
  · split at h
    · cases h
    · omega
theorem entZ_eq (gp cl sq kd ci ir bt si q1 q2 q3 q4 q5 q6 q7 n1 n2 n3 n4 n5 t1 t2 c m wk st : Int) (tk : List Int) (h : 0 ≤ kd) : entZ gp cl sq (cmdZ kd ci ir bt si (bytesZ [q1, q2, q3, q4, q5, q6, q7]) (bytesZ [n1, n2, n3, n4, n5]) (taskZ t1 t2 c m wk tk st)) = entB [gp, cl, sq] kd [ci, ir, bt, si, q1, q2, q3, q4, q5, q6, q7, n1, n2, n3, n4, n5] t1 t2 c m wk tk st := by
  have e : ([ci, ir, bt, si, q1, q2, q3, q4, q5, q6, q7, n1, n2, n3, n4, n5] : List Int) = [ci, ir, bt, si] ++ ([q1, q2, q3, q4, q5, q6, q7] ++ [n1, n2, n3, n4, n5]) := rfl
  unfold entZ cmdZ entB kindZ
  rw [if_neg (by omega), e, bytesZ_app, bytesZ_app]
  simp only [List.append_assoc]
/-- What an entry's bytes are read as. -/
theorem ent_read {L suf : List Int} (gp cl sq kd ci ir bt si q1 q2 q3 q4 q5 q6 q7 n1 n2 n3 n4 n5 t1 t2 c m wk st : Int) (tk : List Int) (l : List Int) (hL : L = entZ gp cl sq (cmdZ kd ci ir bt si (bytesZ [q1, q2, q3, q4, q5, q6, q7]) (bytesZ [n1, n2, n3, n4, n5]) (taskZ t1 t2 c m wk tk st)) ++ suf) (hl : l <+: L) (hE : encE tk.length kd = 0) (igp : I64 gp) (icl : I64 cl) (isq : I64 sq) (ikd : I64 kd) (ici : I64 ci) (iir : I64 ir) (ibt : I64 bt) (isi : I64 si) (iq1 : I64 q1) (iq2 : I64 q2) (iq3 : I64 q3) (iq4 : I64 q4) (iq5 : I64 q5) (iq6 : I64 q6) (iq7 : I64 q7) (in1 : I64 n1) (in2 : I64 n2) (in3 : I64 n3) (in4 : I64 n4) (in5 : I64 n5) (it1 : I64 t1) (it2 : I64 t2) (ic : I64 c) (im : I64 m) (iwk : I64 wk) (ist : I64 st) (hx : ∀ x ∈ tk, I64 x) :
    StR l (enE l 0 0).2 (entZ gp cl sq (cmdZ kd ci ir bt si (bytesZ [q1, q2, q3, q4, q5, q6, q7]) (bytesZ [n1, n2, n3, n4, n5]) (taskZ t1 t2 c m wk tk st))).length ∧ ((enE l 0 0).2.2 = 0 → (tkc l 0 0 0).1 = gp ∧ (tkc l 0 0 1).1 = cl ∧ (tkc l 0 0 2).1 = sq ∧ enK l 0 0 = kd ∧ (enN l 0 0 0).1 = ci ∧ (enN l 0 0 1).1 = ir ∧ (enN l 0 0 2).1 = bt ∧ (enN l 0 0 3).1 = si ∧ (enN l 0 0 4).1 = q1 ∧ (enN l 0 0 5).1 = q2 ∧ (enN l 0 0 6).1 = q3 ∧ (enN l 0 0 7).1 = q4 ∧ (enN l 0 0 8).1 = q5 ∧ (enN l 0 0 9).1 = q6 ∧ (enN l 0 0 10).1 = q7 ∧ (enN l 0 0 11).1 = n1 ∧ (enN l 0 0 12).1 = n2 ∧ (enN l 0 0 13).1 = n3 ∧ (enN l 0 0 14).1 = n4 ∧ (enN l 0 0 15).1 = n5 ∧ (enN l 0 0 16).1 = t1 ∧ (enN l 0 0 17).1 = t2 ∧ (enN l 0 0 18).1 = c ∧ (enN l 0 0 19).1 = m ∧ (enN l 0 0 20).1 = wk ∧ enL l 0 0 = tk ∧ (enE l 0 0).1 = st) := by
  obtain ⟨hn, hk⟩ := encE_zero hE
  rw [entZ_eq gp cl sq kd ci ir bt si q1 q2 q3 q4 q5 q6 q7 n1 n2 n3 n4 n5 t1 t2 c m wk st tk hk] at hL ⊢
  have h := en_st (l := l) (F := L) (suf := suf) (kd := kd) (gs := [gp, cl, sq]) (xs := [ci, ir, bt, si, q1, q2, q3, q4, q5, q6, q7, n1, n2, n3, n4, n5]) (t1 := t1) (t2 := t2) (c := c) (m := m) (wk := wk) (st := st) (tk := tk) hL rfl rfl hl (by intro x hx; simp only [List.mem_cons, List.not_mem_nil, or_false] at hx; rcases hx with rfl | rfl | rfl <;> assumption) hk ikd.2 (by intro x hx; simp only [List.mem_cons, List.not_mem_nil, or_false] at hx; rcases hx with rfl | rfl | rfl | rfl | rfl | rfl | rfl | rfl | rfl | rfl | rfl | rfl | rfl | rfl | rfl | rfl <;> assumption) it1 it2 ic im iwk ist hx hn
  refine ⟨h.1, fun hz => ?_⟩
  obtain ⟨a, b, d, ⟨e0, e1, e2, e3, e4⟩, f, g⟩ := h.2 hz
  exact ⟨a 0 (show 0 < 3 by omega), a 1 (show 1 < 3 by omega), a 2 (show 2 < 3 by omega), b, d 0 (show 0 < 16 by omega), d 1 (show 1 < 16 by omega), d 2 (show 2 < 16 by omega), d 3 (show 3 < 16 by omega), d 4 (show 4 < 16 by omega), d 5 (show 5 < 16 by omega), d 6 (show 6 < 16 by omega), d 7 (show 7 < 16 by omega), d 8 (show 8 < 16 by omega), d 9 (show 9 < 16 by omega), d 10 (show 10 < 16 by omega), d 11 (show 11 < 16 by omega), d 12 (show 12 < 16 by omega), d 13 (show 13 < 16 by omega), d 14 (show 14 < 16 by omega), d 15 (show 15 < 16 by omega), e0, e1, e2, e3, e4, f, g⟩
theorem ent_whole {L : List Int} (gp cl sq kd ci ir bt si q1 q2 q3 q4 q5 q6 q7 n1 n2 n3 n4 n5 t1 t2 c m wk st : Int) (tk : List Int) (hL : L = entZ gp cl sq (cmdZ kd ci ir bt si (bytesZ [q1, q2, q3, q4, q5, q6, q7]) (bytesZ [n1, n2, n3, n4, n5]) (taskZ t1 t2 c m wk tk st))) (hE : encE tk.length kd = 0) (igp : I64 gp) (icl : I64 cl) (isq : I64 sq) (ikd : I64 kd) (ici : I64 ci) (iir : I64 ir) (ibt : I64 bt) (isi : I64 si) (iq1 : I64 q1) (iq2 : I64 q2) (iq3 : I64 q3) (iq4 : I64 q4) (iq5 : I64 q5) (iq6 : I64 q6) (iq7 : I64 q7) (in1 : I64 n1) (in2 : I64 n2) (in3 : I64 n3) (in4 : I64 n4) (in5 : I64 n5) (it1 : I64 t1) (it2 : I64 t2) (ic : I64 c) (im : I64 m) (iwk : I64 wk) (ist : I64 st) (hx : ∀ x ∈ tk, I64 x) :
    (enE L 0 0).2 = ((L.length : Int), 0) ∧ (tkc L 0 0 0).1 = gp ∧ (tkc L 0 0 1).1 = cl ∧ (tkc L 0 0 2).1 = sq ∧ enK L 0 0 = kd ∧ (enN L 0 0 0).1 = ci ∧ (enN L 0 0 1).1 = ir ∧ (enN L 0 0 2).1 = bt ∧ (enN L 0 0 3).1 = si ∧ (enN L 0 0 4).1 = q1 ∧ (enN L 0 0 5).1 = q2 ∧ (enN L 0 0 6).1 = q3 ∧ (enN L 0 0 7).1 = q4 ∧ (enN L 0 0 8).1 = q5 ∧ (enN L 0 0 9).1 = q6 ∧ (enN L 0 0 10).1 = q7 ∧ (enN L 0 0 11).1 = n1 ∧ (enN L 0 0 12).1 = n2 ∧ (enN L 0 0 13).1 = n3 ∧ (enN L 0 0 14).1 = n4 ∧ (enN L 0 0 15).1 = n5 ∧ (enN L 0 0 16).1 = t1 ∧ (enN L 0 0 17).1 = t2 ∧ (enN L 0 0 18).1 = c ∧ (enN L 0 0 19).1 = m ∧ (enN L 0 0 20).1 = wk ∧ enL L 0 0 = tk ∧ (enE L 0 0).1 = st := by
  have h := ent_read (L := L) (suf := []) gp cl sq kd ci ir bt si q1 q2 q3 q4 q5 q6 q7 n1 n2 n3 n4 n5 t1 t2 c m wk st tk L (by rw [List.append_nil]; exact hL) ⟨[], by simp⟩ hE igp icl isq ikd ici iir ibt isi iq1 iq2 iq3 iq4 iq5 iq6 iq7 in1 in2 in3 in4 in5 it1 it2 ic im iwk ist hx
  rw [← hL] at h
  rcases h.1 with ⟨h1, h2, _⟩ | ⟨_, _, h3⟩
  · exact ⟨Prod.ext h2 h1, h.2 h1⟩
  · omega
theorem ent_inj (gp cl sq kd ci ir bt si q1 q2 q3 q4 q5 q6 q7 n1 n2 n3 n4 n5 t1 t2 c m wk st gp' cl' sq' kd' ci' ir' bt' si' q1' q2' q3' q4' q5' q6' q7' n1' n2' n3' n4' n5' t1' t2' c' m' wk' st' : Int) (tk tk' : List Int) (hE : encE tk.length kd = 0) (hE' : encE tk'.length kd' = 0) (igp : I64 gp) (icl : I64 cl) (isq : I64 sq) (ikd : I64 kd) (ici : I64 ci) (iir : I64 ir) (ibt : I64 bt) (isi : I64 si) (iq1 : I64 q1) (iq2 : I64 q2) (iq3 : I64 q3) (iq4 : I64 q4) (iq5 : I64 q5) (iq6 : I64 q6) (iq7 : I64 q7) (in1 : I64 n1) (in2 : I64 n2) (in3 : I64 n3) (in4 : I64 n4) (in5 : I64 n5) (it1 : I64 t1) (it2 : I64 t2) (ic : I64 c) (im : I64 m) (iwk : I64 wk) (ist : I64 st) (igp' : I64 gp') (icl' : I64 cl') (isq' : I64 sq') (ikd' : I64 kd') (ici' : I64 ci') (iir' : I64 ir') (ibt' : I64 bt') (isi' : I64 si') (iq1' : I64 q1') (iq2' : I64 q2') (iq3' : I64 q3') (iq4' : I64 q4') (iq5' : I64 q5') (iq6' : I64 q6') (iq7' : I64 q7') (in1' : I64 n1') (in2' : I64 n2') (in3' : I64 n3') (in4' : I64 n4') (in5' : I64 n5') (it1' : I64 t1') (it2' : I64 t2') (ic' : I64 c') (im' : I64 m') (iwk' : I64 wk') (ist' : I64 st') (hx : ∀ x ∈ tk, I64 x) (hx' : ∀ x ∈ tk', I64 x) (h : entZ gp cl sq (cmdZ kd ci ir bt si (bytesZ [q1, q2, q3, q4, q5, q6, q7]) (bytesZ [n1, n2, n3, n4, n5]) (taskZ t1 t2 c m wk tk st)) = entZ gp' cl' sq' (cmdZ kd' ci' ir' bt' si' (bytesZ [q1', q2', q3', q4', q5', q6', q7']) (bytesZ [n1', n2', n3', n4', n5']) (taskZ t1' t2' c' m' wk' tk' st'))) :
    gp = gp' ∧ cl = cl' ∧ sq = sq' ∧ kd = kd' ∧ ci = ci' ∧ ir = ir' ∧ bt = bt' ∧ si = si' ∧ q1 = q1' ∧ q2 = q2' ∧ q3 = q3' ∧ q4 = q4' ∧ q5 = q5' ∧ q6 = q6' ∧ q7 = q7' ∧ n1 = n1' ∧ n2 = n2' ∧ n3 = n3' ∧ n4 = n4' ∧ n5 = n5' ∧ t1 = t1' ∧ t2 = t2' ∧ c = c' ∧ m = m' ∧ wk = wk' ∧ st = st' ∧ tk = tk' := by
  obtain ⟨_, a0, a1, a2, a3, a4, a5, a6, a7, a8, a9, a10, a11, a12, a13, a14, a15, a16, a17, a18, a19, a20, a21, a22, a23, a24, a25, a26⟩ := ent_whole gp cl sq kd ci ir bt si q1 q2 q3 q4 q5 q6 q7 n1 n2 n3 n4 n5 t1 t2 c m wk st tk rfl hE igp icl isq ikd ici iir ibt isi iq1 iq2 iq3 iq4 iq5 iq6 iq7 in1 in2 in3 in4 in5 it1 it2 ic im iwk ist hx
  obtain ⟨_, b0, b1, b2, b3, b4, b5, b6, b7, b8, b9, b10, b11, b12, b13, b14, b15, b16, b17, b18, b19, b20, b21, b22, b23, b24, b25, b26⟩ := ent_whole gp' cl' sq' kd' ci' ir' bt' si' q1' q2' q3' q4' q5' q6' q7' n1' n2' n3' n4' n5' t1' t2' c' m' wk' st' tk' h hE' igp' icl' isq' ikd' ici' iir' ibt' isi' iq1' iq2' iq3' iq4' iq5' iq6' iq7' in1' in2' in3' in4' in5' it1' it2' ic' im' iwk' ist' hx'
  exact ⟨a0.symm.trans b0, a1.symm.trans b1, a2.symm.trans b2, a3.symm.trans b3, a4.symm.trans b4, a5.symm.trans b5, a6.symm.trans b6, a7.symm.trans b7, a8.symm.trans b8, a9.symm.trans b9, a10.symm.trans b10, a11.symm.trans b11, a12.symm.trans b12, a13.symm.trans b13, a14.symm.trans b14, a15.symm.trans b15, a16.symm.trans b16, a17.symm.trans b17, a18.symm.trans b18, a19.symm.trans b19, a20.symm.trans b20, a21.symm.trans b21, a22.symm.trans b22, a23.symm.trans b23, a24.symm.trans b24, a26.symm.trans b26, a25.symm.trans b25⟩
end Go.Proofs.Ythkbddnkcljjpaa
