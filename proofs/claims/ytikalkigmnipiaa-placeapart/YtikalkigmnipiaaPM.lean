/-
  Nodes, leases and rooms, as plain lists: what is taken, what is free, which node is the tightest.
-/
import Derived.Test.YtikalkigmnipiaaPA
namespace Go.Proofs.Ytikalkigmnipiaa
set_option linter.unusedVariables false
set_option linter.unusedSimpArgs false

/-- What counts of a lease here. -/
structure Lz where
  no : Int
  me : Int
  co : List Int
/-- The cores that leases of a node have. -/
def taken (id : Int) : List Lz → List Int
  | [] => []
  | x :: r => (if x.no = id then x.co else []) ++ taken id r
def usedM (id : Int) : List Lz → Int
  | [] => 0
  | x :: r => (if x.no = id then x.me else 0) + usedM id r
theorem taken_append (id : Int) (a b : List Lz) : taken id (a ++ b) = taken id a ++ taken id b := by
  induction a with
  | nil => rfl
  | cons x r ih => simp only [List.cons_append, taken, ih, List.append_assoc]
theorem usedM_append (id : Int) (a b : List Lz) : usedM id (a ++ b) = usedM id a + usedM id b := by
  induction a with
  | nil => simp [usedM]
  | cons x r ih => simp only [List.cons_append, usedM, ih]; omega
theorem taken_one (id : Int) (a : List Lz) (x : Lz) : taken id (a ++ [x]) = taken id a ++ (if x.no = id then x.co else []) := by rw [taken_append]; simp [taken]
theorem usedM_one (id : Int) (a : List Lz) (x : Lz) : usedM id (a ++ [x]) = usedM id a + (if x.no = id then x.me else 0) := by rw [usedM_append]; simp [usedM]

/-- Are cores those of a node with n of them, rising? -/
def coB (n : Int) (l : List Int) : Bool := l.all (fun c => !(decide (c < 0)) && !(decide (n ≤ c))) && riseB l
/-- The code's way over them. -/
def chB (tk : Nat → Bool) (n : Int) : Int → List Int → Bool
  | _, [] => true
  | a, c :: r => !(decide (c ≤ a)) && !(decide (n ≤ c)) && !(tk c.toNat) && chB tk n c r
theorem chB_cons_iff {tk : Nat → Bool} {n a c : Int} {r : List Int} : chB tk n a (c :: r) = true ↔ a < c ∧ c < n ∧ tk c.toNat = false ∧ chB tk n c r = true := by
  simp only [chB, Bool.and_eq_true, Bool.not_eq_true', decide_eq_false_iff_not, Int.not_le]
  constructor <;> intro h <;> simp_all
theorem chB_iff {tk : Nat → Bool} {n : Int} : ∀ {l : List Int} {a : Int}, -1 ≤ a → (chB tk n a l = true ↔ (∀ c ∈ l, a < c ∧ c < n ∧ tk c.toNat = false) ∧ riseB l = true) := by
  intro l
  induction l with
  | nil => intro a ha; simp [chB, riseB]
  | cons c r ih =>
    intro a ha
    rw [chB_cons_iff]
    constructor
    · rintro ⟨h1, h2, h3, h4⟩
      obtain ⟨h5, h6⟩ := (ih (by omega)).1 h4
      refine ⟨?_, ?_⟩
      · intro y hy
        rcases List.mem_cons.1 hy with rfl | hy
        · exact ⟨h1, h2, h3⟩
        · have := h5 y hy; exact ⟨by omega, this.2⟩
      · cases r with
        | nil => rfl
        | cons d r =>
          unfold riseB
          rw [h6, Bool.and_true]
          exact decide_eq_true (h5 d (by simp)).1
    · rintro ⟨h1, h2⟩
      have hc := h1 c (by simp)
      refine ⟨hc.1, hc.2.1, hc.2.2, (ih (by omega)).2 ⟨?_, ?_⟩⟩
      · have hp : ∀ y ∈ r, c < y := by
          clear ih h1
          intro y hy
          obtain ⟨k, hk, rfl⟩ := List.getElem_of_mem hy
          have hr := riseB_iff.1 h2
          have : ∀ k (hk : k < r.length), c < r[k] := by
            intro k
            induction k with
            | zero => intro hk; have := hr 0 (by simp; omega); simpa [na, hk] using this
            | succ k ih =>
              intro hk
              have h3 := ih (by omega)
              have := hr (k + 1) (by simp; omega)
              have h4 : k < r.length := by omega
              simp [na, hk, h4] at this
              omega
          exact this k hk
        intro y hy
        have := h1 y (by simp [hy])
        exact ⟨hp y hy, this.2⟩
      · cases r with
        | nil => rfl
        | cons d r => unfold riseB at h2; exact (Bool.and_eq_true _ _ ▸ h2).2
theorem chB_eq (tk : Nat → Bool) (n : Int) (l : List Int) : chB tk n (-1) l = (coB n l && l.all (fun c => !(tk c.toNat))) := by
  rw [Bool.eq_iff_iff, chB_iff (by omega)]
  unfold coB
  simp only [Bool.and_eq_true, List.all_eq_true, Bool.not_eq_true', decide_eq_false_iff_not]
  constructor
  · rintro ⟨h1, h2⟩
    exact ⟨⟨fun c hc => ⟨by have := h1 c hc; omega, by have := h1 c hc; omega⟩, h2⟩, fun c hc => (h1 c hc).2.2⟩
  · rintro ⟨⟨h1, h2⟩, h3⟩
    exact ⟨fun c hc => ⟨by have := h1 c hc; omega, by have := h1 c hc; omega, h3 c hc⟩, h2⟩

/-- The node of an Id. -/
def ndI (ns : List Nd) (id : Int) : Nat := ns.findIdx (fun n => decide (n.id = id))
theorem ndI_le (ns : List Nd) (id : Int) : ndI ns id ≤ ns.length := List.findIdx_le_length
theorem da_eq {l : List Nd} {i : Nat} (h : i < l.length) : da l i = l[i] := by unfold da; rw [List.getElem?_eq_getElem h]; rfl
theorem da_mem {l : List Nd} {i : Nat} (h : i < l.length) : da l i ∈ l := by rw [da_eq h]; exact List.getElem_mem h
theorem ndI_id {ns : List Nd} {id : Int} (h : ndI ns id < ns.length) : (da ns (ndI ns id)).id = id := by
  rw [da_eq h]
  have := List.findIdx_getElem (p := fun n : Nd => decide (n.id = id)) (w := h)
  exact of_decide_eq_true this
theorem ndI_before {ns : List Nd} {id : Int} {k : Nat} (h : k < ndI ns id) : (da ns k).id ≠ id := by
  have hl := ndI_le ns id
  rw [da_eq (by omega)]
  have := List.not_of_lt_findIdx h
  simpa using this
theorem ndI_eq {ns : List Nd} {id : Int} {k : Nat} (hk : k < ns.length) (h1 : ∀ i, i < k → (da ns i).id ≠ id) (h2 : (da ns k).id = id) : ndI ns id = k := by
  rcases Nat.lt_trichotomy (ndI ns id) k with h | h | h
  · exact absurd (ndI_id (by omega)) (h1 _ h)
  · exact h
  · exact absurd h2 (ndI_before h)
theorem ndI_none {ns : List Nd} {id : Int} (h : ∀ i, i < ns.length → (da ns i).id ≠ id) : ndI ns id = ns.length := by
  rcases Nat.lt_or_ge (ndI ns id) ns.length with h1 | h1
  · exact absurd (ndI_id h1) (h _ h1)
  · have := ndI_le ns id; omega

/-- Is a lease of the form, behind others? -/
def leB (ns : List Nd) (pre : List Lz) (x : Lz) : Bool :=
  decide (ndI ns x.no < ns.length) && (coB (da ns (ndI ns x.no)).co x.co && !(decide (x.me < 0)) && !(decide (1099511627776 < x.me)) && x.co.all (fun c => !(hasN (taken x.no pre) c)) && !(decide ((da ns (ndI ns x.no)).me < usedM x.no pre + x.me)))
def lesB (ns : List Nd) : List Lz → List Lz → Bool
  | _, [] => true
  | pre, x :: r => leB ns pre x && lesB ns (pre ++ [x]) r
/-- Are lists of the form? -/
def formP (ns : List Nd) (ls : List Lz) : Bool := ndsB (-1) ns && lesB ns [] ls
/-- The lists' error. -/
def plE (ns : List Nd) (ls : List Lz) : Int := if 64 < ns.length then 3 else if formP ns ls = true then 0 else 4

theorem lesB_append (ns : List Nd) : ∀ (a b pre : List Lz), lesB ns pre (a ++ b) = (lesB ns pre a && lesB ns (pre ++ a) b) := by
  intro a
  induction a with
  | nil => intro b pre; simp [lesB]
  | cons x r ih => intro b pre; simp only [List.cons_append, lesB, ih, Bool.and_assoc, List.append_assoc, List.nil_append]
theorem lesB_one (ns : List Nd) (a : List Lz) (x : Lz) : lesB ns [] (a ++ [x]) = (lesB ns [] a && leB ns a x) := by rw [lesB_append]; simp [lesB]

/-- Nodes of the form rise. -/
theorem ndsB_iff : ∀ {ns : List Nd} {a : Int}, ndsB a ns = true ↔ (∀ k, k < ns.length → (1 ≤ (da ns k).co ∧ (da ns k).co ≤ 64 ∧ okp (da ns k).me) ∧ a < (da ns k).id) ∧ ∀ i j, i < j → j < ns.length → (da ns i).id < (da ns j).id := by
  intro ns
  induction ns with
  | nil => intro a; simp [ndsB]
  | cons n r ih =>
    intro a
    unfold ndsB
    rw [Bool.and_eq_true, ih]
    have hn : ndB a n = true ↔ a < n.id ∧ 1 ≤ n.co ∧ n.co ≤ 64 ∧ okp n.me := by
      unfold ndB chk
      simp only [Bool.and_eq_true, Bool.not_eq_true', decide_eq_false_iff_not, decide_eq_true_eq]
      unfold okp
      constructor
      · rintro ⟨⟨⟨h1, h2⟩, h3⟩, h4⟩
        split at h4
        · rename_i h5; exact ⟨by omega, by omega, by omega, h5.2⟩
        · omega
      · rintro ⟨h1, h2, h3, h4⟩
        rw [if_pos ⟨by omega, h4⟩]
        exact ⟨⟨⟨by omega, by omega⟩, by omega⟩, rfl⟩
    rw [hn]
    have d0 : da (n :: r) 0 = n := rfl
    have ds : ∀ k, da (n :: r) (k + 1) = da r k := fun k => rfl
    constructor
    · rintro ⟨⟨h1, h2⟩, h3, h4⟩
      refine ⟨?_, ?_⟩
      · intro k hk
        cases k with
        | zero => rw [d0]; exact ⟨h2, h1⟩
        | succ k => rw [ds]; have := h3 k (by simpa using hk); exact ⟨this.1, by omega⟩
      · intro i j hij hj
        cases j with
        | zero => omega
        | succ j =>
          rw [ds]
          cases i with
          | zero => rw [d0]; exact (h3 j (by simpa using hj)).2
          | succ i => rw [ds]; exact h4 i j (by omega) (by simpa using hj)
    · rintro ⟨h1, h2⟩
      have h0 := h1 0 (by simp)
      rw [d0] at h0
      refine ⟨⟨h0.2, h0.1⟩, ?_, ?_⟩
      · intro k hk
        have := h1 (k + 1) (by simpa using hk)
        rw [ds] at this
        refine ⟨this.1, ?_⟩
        have := h2 0 (k + 1) (by omega) (by simpa using hk)
        rwa [ds, d0] at this
      · intro i j hij hj
        have := h2 (i + 1) (j + 1) (by omega) (by simpa using hj)
        rwa [ds, ds] at this
theorem ndI_at {ns : List Nd} {a : Int} (h : ndsB a ns = true) {k : Nat} (hk : k < ns.length) : ndI ns (da ns k).id = k := by
  refine ndI_eq hk (fun i hi => ?_) rfl
  have := (ndsB_iff.1 h).2 i k hi hk
  omega

/-- A room behind leases. -/
def rmA (ls : List Lz) (n : Nd) : Rm := ⟨n, fun c => hasN (taken n.id ls) c, n.co - (taken n.id ls).length, n.me - usedM n.id ls⟩
theorem rmA_nil (n : Nd) : rmA [] n = rm0 n := by simp [rmA, rm0, taken, usedM, hasN]
/-- A room that one lease more is taken from. -/
def rmT (r : Rm) (x : Lz) : Rm := ⟨r.nd, fun c => r.tk c || hasN x.co c, r.fc - x.co.length, r.fm - x.me⟩
theorem hasN_append (a b : List Int) (x : Int) : hasN (a ++ b) x = (hasN a x || hasN b x) := by simp [hasN]
theorem rmA_same {ls : List Lz} {n : Nd} {x : Lz} (h : x.no = n.id) : rmA (ls ++ [x]) n = rmT (rmA ls n) x := by
  simp only [rmA, rmT, taken_one, usedM_one, if_pos h, hasN_append, List.length_append]
  congr 1 <;> omega
theorem rmA_other {ls : List Lz} {n : Nd} {x : Lz} (h : x.no ≠ n.id) : rmA (ls ++ [x]) n = rmA ls n := by
  simp only [rmA, taken_one, usedM_one, if_neg h, List.append_nil, Int.add_zero]
theorem rooms_step {ns : List Nd} {a : Int} (hn : ndsB a ns = true) {ls : List Lz} {x : Lz} {j : Nat} (hj : j < ns.length) (h : (da ns j).id = x.no) : ns.map (rmA (ls ++ [x])) = (ns.map (rmA ls)).set j (rmT (rmA ls (da ns j)) x) := by
  apply List.ext_getElem
  · simp
  · intro i h1 h2
    have hi : i < ns.length := by simpa using h1
    rw [List.getElem_map, List.getElem_set]
    by_cases e : j = i
    · subst e
      rw [if_pos rfl, ← da_eq hi, rmA_same h.symm]
    · rw [if_neg e, List.getElem_map]
      rw [rmA_other]
      rw [← da_eq hi, ← h]
      intro he
      rcases Nat.lt_or_ge i j with hl | hl
      · have := (ndsB_iff.1 hn).2 i j hl hj; omega
      · have := (ndsB_iff.1 hn).2 j i (by omega) hi; omega

/-- Free cores. -/
def freeT (tk : Nat → Bool) (n : Nat) : List Int := ((List.range n).filter (fun c : Nat => !(tk c))).map (fun c : Nat => (c : Int))
theorem freeT_succ (tk : Nat → Bool) (n : Nat) : freeT tk (n + 1) = freeT tk n ++ (if tk n then [] else [(n : Int)]) := by
  unfold freeT
  rw [List.range_succ, List.filter_append, List.map_append]
  congr 1
  cases h : tk n <;> simp [h]
theorem freeT_le (tk : Nat → Bool) (n : Nat) : (freeT tk n).length ≤ n := by
  unfold freeT
  rw [List.length_map]
  exact Nat.le_trans (List.length_filter_le _ _) (by simp)
theorem mem_freeT {tk : Nat → Bool} {n : Nat} {x : Int} : x ∈ freeT tk n ↔ ∃ c : Nat, c < n ∧ tk c = false ∧ x = c := by
  unfold freeT
  simp only [List.mem_map, List.mem_filter, List.mem_range, Bool.not_eq_true']
  constructor
  · rintro ⟨c, ⟨h1, h2⟩, rfl⟩; exact ⟨c, h1, h2, rfl⟩
  · rintro ⟨c, h1, h2, rfl⟩; exact ⟨c, ⟨h1, h2⟩, rfl⟩
theorem filter_but {t : Nat} : ∀ {l : List Nat} (hn : l.Nodup) (ht : t ∈ l) (p : Nat → Bool) (hp : p t = true), (l.filter (fun c => p c && !(decide (c = t)))).length + 1 = (l.filter p).length := by
  intro l
  induction l with
  | nil => intro hn ht; cases ht
  | cons a l ih =>
    intro hn ht p hp
    rw [List.nodup_cons] at hn
    by_cases e : a = t
    · subst e
      have h1 : (l.filter (fun c => p c && !(decide (c = a)))) = l.filter p := by
        apply List.filter_congr
        intro c hc
        have : c ≠ a := fun e => hn.1 (e ▸ hc)
        simp [this]
      rw [List.filter_cons, List.filter_cons, h1]
      simp [hp]
    · have ht' : t ∈ l := by
        rcases List.mem_cons.1 ht with h | h
        · exact absurd h.symm e
        · exact h
      have := ih hn.2 ht' p hp
      rw [List.filter_cons, List.filter_cons]
      cases hpa : p a <;> simp [hpa, e] <;> omega
theorem free_count {n : Nat} : ∀ {t : List Int}, t.Nodup → (∀ c ∈ t, 0 ≤ c ∧ c < (n : Int)) → (freeT (fun c => hasN t c) n).length + t.length = n := by
  intro t
  induction t with
  | nil => intro _ _; unfold freeT; rw [List.length_map, List.filter_eq_self.2 (by intro a _; rfl)]; simp
  | cons x t ih =>
    intro h1 h2
    rw [List.nodup_cons] at h1
    have h3 := ih h1.2 (fun c hc => h2 c (by simp [hc]))
    have hx := h2 x (by simp)
    obtain ⟨k, rfl⟩ : ∃ k : Nat, x = k := ⟨x.toNat, by omega⟩
    have hnot : hasN t (k : Int) = false := by
      cases e : hasN t (k : Int)
      · rfl
      · exact absurd (hasN_iff.1 e) h1.1
    have h4 := filter_but (t := k) (l := List.range n) List.nodup_range (by simp; omega) (fun c => !(hasN t (c : Int))) (by simp [hnot])
    unfold freeT at h3 ⊢
    rw [List.length_map] at h3 ⊢
    have h5 : (fun c : Nat => !(hasN ((k : Int) :: t) (c : Int))) = (fun c : Nat => (!(hasN t (c : Int))) && !(decide (c = k))) := by
      funext c
      have : hasN ((k : Int) :: t) (c : Int) = (decide ((k : Int) = c) || hasN t c) := by simp [hasN]
      rw [this]
      by_cases e : c = k
      · subst e; simp
      · have e1 : ¬ ((k : Int) = c) := by omega
        simp [e, e1]
    rw [h5, List.length_cons]
    have h4' : (List.filter (fun c : Nat => (!(hasN t (c : Int))) && !(decide (c = k))) (List.range n)).length + 1 = (List.filter (fun c : Nat => !(hasN t (c : Int))) (List.range n)).length := h4
    generalize (List.filter (fun c : Nat => (!(hasN t (c : Int))) && !(decide (c = k))) (List.range n)).length = A at *
    generalize (List.filter (fun c : Nat => !(hasN t (c : Int))) (List.range n)).length = B at *
    omega

theorem rise_nodup {l : List Int} (h : riseB l = true) : l.Nodup := by
  have hp : ∀ i j, i < j → j < l.length → na l i < na l j := by
    intro i j hij
    induction j with
    | zero => omega
    | succ j ih =>
      intro hj
      have h1 := riseB_iff.1 h j hj
      rcases Nat.lt_or_ge i j with h2 | h2
      · have := ih h2 (by omega); omega
      · rw [show i = j by omega]; exact h1
  unfold List.Nodup
  rw [List.pairwise_iff_getElem]
  intro i j hi hj hij
  have := hp i j hij hj
  unfold na at this
  rw [List.getElem?_eq_getElem hi, List.getElem?_eq_getElem hj] at this
  simp at this
  omega

/-- What leases of the form leave of a node. -/
structure Inv (ls : List Lz) (n : Nd) : Prop where
  nd : (taken n.id ls).Nodup
  rng : ∀ c ∈ taken n.id ls, 0 ≤ c ∧ c < n.co
  me0 : 0 ≤ usedM n.id ls
  me1 : usedM n.id ls ≤ n.me
theorem Inv.of {ns : List Nd} {a : Int} (hn : ndsB a ns = true) {n : Nd} (hm : n ∈ ns) : ∀ (k : Nat) (ls : List Lz), ls.length = k → lesB ns [] ls = true → Inv ls n := by
  obtain ⟨j, hj, rfl⟩ := List.getElem_of_mem hm
  rw [← da_eq hj]
  have hN := (ndsB_iff.1 hn).1 j hj
  intro k
  induction k with
  | zero =>
    intro ls hl _
    obtain rfl := List.length_eq_zero_iff.1 hl
    refine ⟨by simp [taken], by simp [taken], by simp [usedM], ?_⟩
    simp [usedM]; exact hN.1.2.2.1
  | succ k ih =>
    intro ls hl h
    obtain ⟨p, x, rfl⟩ : ∃ p x, ls = p ++ [x] := by
      have hne : ls ≠ [] := by intro e; subst e; simp at hl
      exact ⟨ls.dropLast, ls.getLast hne, (List.dropLast_concat_getLast hne).symm⟩
    rw [lesB_one, Bool.and_eq_true] at h
    have i0 := ih p (by simpa using hl) h.1
    obtain ⟨a1, a2, a3, a4⟩ := i0
    by_cases e : x.no = (da ns j).id
    · have hj' : ndI ns x.no = j := by rw [e]; exact ndI_at hn hj
      have h2 := h.2
      unfold leB coB at h2
      rw [hj'] at h2
      simp only [Bool.and_eq_true, decide_eq_true_eq, Bool.not_eq_true', decide_eq_false_iff_not, List.all_eq_true] at h2
      obtain ⟨_, ⟨⟨⟨⟨b1, b2⟩, b3⟩, b4⟩, b5⟩, b6⟩ := h2
      rw [e] at b5 b6
      refine ⟨?_, ?_, ?_, ?_⟩
      · rw [taken_one, if_pos e, List.nodup_append]
        refine ⟨a1, rise_nodup b2, ?_⟩
        intro y hy z hz e2
        subst e2
        have := b5 y hz
        rw [hasN_iff.2 hy] at this
        cases this
      · rw [taken_one, if_pos e]
        intro c hc
        rcases List.mem_append.1 hc with hc | hc
        · exact a2 c hc
        · have := b1 c hc; omega
      · rw [usedM_one, if_pos e]; omega
      · rw [usedM_one, if_pos e]; omega
    · refine ⟨?_, ?_, ?_, ?_⟩
      · rw [taken_one, if_neg e, List.append_nil]; exact a1
      · rw [taken_one, if_neg e, List.append_nil]; exact a2
      · rw [usedM_one, if_neg e]; omega
      · rw [usedM_one, if_neg e]; omega

/-- The code's answer of one lease. -/
def takeB (r : Rm) (x : Lz) : Bool := decide (okp (x.co.length : Int) ∧ okp x.me) && decide (okp (r.fc - x.co.length) ∧ okp (r.fm - x.me)) && chB r.tk r.nd.co (-1) x.co

theorem take_le {ns : List Nd} {a : Int} (hn : ndsB a ns = true) {pre : List Lz} {x : Lz} (hp : lesB ns [] pre = true) {j : Nat} (hj : j < ns.length) (h : (da ns j).id = x.no) : takeB (rmA pre (da ns j)) x = leB ns pre x := by
  have hI := Inv.of hn (da_mem hj) _ pre rfl hp
  have hN := (ndsB_iff.1 hn).1 j hj
  have hj' : ndI ns x.no = j := by rw [← h]; exact ndI_at hn hj
  obtain ⟨a1, a2, a3, a4⟩ := hI
  obtain ⟨⟨n1, n2, n3⟩, n4⟩ := hN
  have htc : (taken (da ns j).id pre).length ≤ (da ns j).co.toNat := by
    have := free_count (n := (da ns j).co.toNat) a1 (fun c hc => by have := a2 c hc; omega)
    omega
  rw [h] at a1 a2 a3 a4 htc
  unfold takeB leB
  rw [hj', chB_eq]
  have hjj : decide (j < ns.length) = true := decide_eq_true hj
  rw [hjj, Bool.true_and]
  have e1 : (rmA pre (da ns j)).fc = (da ns j).co - (taken x.no pre).length := by rw [← h]; rfl
  have e2 : (rmA pre (da ns j)).fm = (da ns j).me - usedM x.no pre := by rw [← h]; rfl
  have e3 : (rmA pre (da ns j)).tk = fun c : Nat => hasN (taken x.no pre) (c : Int) := by rw [← h]; rfl
  have e4 : (rmA pre (da ns j)).nd = da ns j := rfl
  rw [e3, e4]
  have htk : (x.co.all fun c => !(hasN (taken x.no pre) ((c.toNat : Nat) : Int))) = true → coB (da ns j).co x.co = true → (x.co.all fun c => !(hasN (taken x.no pre) c)) = true := by
    intro e1 e2
    unfold coB at e2
    rw [Bool.and_eq_true, List.all_eq_true] at e2
    rw [List.all_eq_true] at e1 ⊢
    intro c hc
    have h1 := e2.1 c hc
    have h2 := e1 c hc
    simp at h1
    rwa [show ((c.toNat : Nat) : Int) = c by omega] at h2
  have htk2 : (x.co.all fun c => !(hasN (taken x.no pre) c)) = true → coB (da ns j).co x.co = true → (x.co.all fun c => !(hasN (taken x.no pre) ((c.toNat : Nat) : Int))) = true := by
    intro e1 e2
    unfold coB at e2
    rw [Bool.and_eq_true, List.all_eq_true] at e2
    rw [List.all_eq_true] at e1 ⊢
    intro c hc
    have h1 := e2.1 c hc
    have h2 := e1 c hc
    simp at h1
    rwa [show ((c.toNat : Nat) : Int) = c by omega]
  rw [Bool.eq_iff_iff]
  simp only [Bool.and_eq_true, decide_eq_true_eq, Bool.not_eq_true', decide_eq_false_iff_not]
  rw [e1, e2]
  unfold okp at *
  constructor
  · rintro ⟨⟨⟨b1, b2⟩, b3, b4⟩, b5, b6⟩
    exact ⟨⟨⟨⟨b5, by omega⟩, by omega⟩, htk b6 b5⟩, by omega⟩
  · rintro ⟨⟨⟨⟨b1, b2⟩, b3⟩, b4⟩, b5⟩
    have hlen : (taken x.no pre).length + x.co.length ≤ (da ns j).co.toNat := by
      have hnd : (taken x.no pre ++ x.co).Nodup := by
        rw [List.nodup_append]
        have b1' := b1
        unfold coB at b1'
        rw [Bool.and_eq_true] at b1'
        refine ⟨a1, rise_nodup b1'.2, ?_⟩
        intro y hy z hz e2
        subst e2
        have := (List.all_eq_true.1 b4) y hz
        rw [hasN_iff.2 hy] at this
        cases this
      have hr : ∀ c ∈ taken x.no pre ++ x.co, 0 ≤ c ∧ c < (((da ns j).co.toNat : Nat) : Int) := by
        intro c hc
        rcases List.mem_append.1 hc with hc | hc
        · have := a2 c hc; omega
        · unfold coB at b1
          rw [Bool.and_eq_true, List.all_eq_true] at b1
          have := b1.1 c hc
          simp at this
          omega
      have := free_count hnd hr
      rw [List.length_append] at this
      omega
    exact ⟨⟨⟨by omega, by omega⟩, by omega, by omega⟩, b1, htk2 b4 b1⟩

theorem fc_free {ns : List Nd} {a : Int} (hn : ndsB a ns = true) {ls : List Lz} (hp : lesB ns [] ls = true) {j : Nat} (hj : j < ns.length) : (rmA ls (da ns j)).fc = ((freeT (rmA ls (da ns j)).tk (da ns j).co.toNat).length : Int) := by
  have hI := Inv.of hn (da_mem hj) _ ls rfl hp
  have hN := (ndsB_iff.1 hn).1 j hj
  have := free_count (n := (da ns j).co.toNat) hI.nd (fun c hc => by have := hI.rng c hc; omega)
  simp only [rmA]
  omega

/-- The tightest of the first k rooms in which a need fits. -/
def tg (l : List Rm) (c m : Int) : Nat → Option Nat
  | 0 => none
  | k + 1 => match tg l c m k, l[k]? with
    | o, none => o
    | none, some r => if c ≤ r.fc ∧ m ≤ r.fm then some k else none
    | some b, some r => if (c ≤ r.fc ∧ m ≤ r.fm) ∧ r.fc < ((l[b]?).map (·.fc)).getD 0 then some k else some b

end Go.Proofs.Ytikalkigmnipiaa
