/-
  Contracts of command: a list of leases is written.
  Contracts of command: lists of queues, nodes, tasks, hungers are written.
  Contracts of command: a flag, a lease, a hunger are written.
-/
import Derived.Test.YthkbddnkcljjpaaMCM
import Derived.Test.YthkbddnkcljjpaaLE
import Derived.Test.YthkbddnkcljjpaaMCX
import Derived.Test.YthkbddnkcljjpaaMCH
import Derived.Test.YthkbddnkcljjpaaMCA
namespace Go.Proofs.Ythkbddnkcljjpaa
open Go.RowKit Go.Deep Go.Maps
set_option linter.unusedVariables false
set_option linter.unusedSimpArgs false

/-- A list as it is written; whether a list that is too long is met in it. -/
def listW {α : Type} (en : α → List Int) (xs : List α) : List Int := if 1024 < xs.length then [] else listE en xs
def flW {α : Type} (fl : α → Bool) (xs : List α) : Bool := if 1024 < xs.length then true else xs.any fl
theorem any_snoc {α : Type} (fl : α → Bool) {xs : List α} {k : Nat} (h : k < xs.length) : (xs.take (k + 1)).any fl = ((xs.take k).any fl || fl xs[k]) := by
  rw [List.take_add_one, List.getElem?_eq_getElem h]
  simp only [Option.toList_some, List.any_append, List.any_cons, List.any_nil, Bool.or_false]
theorem flat_le {α : Type} {en : α → List Int} {M : Nat} : ∀ {xs : List α}, (∀ x ∈ xs, (en x).length ≤ M) → (xs.flatMap en).length ≤ xs.length * M
  | [], _ => by simp
  | x :: r, h => by
    have h1 := h x List.mem_cons_self
    have h2 := flat_le (xs := r) (fun y hy => h y (List.mem_cons_of_mem _ hy))
    rw [List.flatMap_cons, List.length_append, List.length_cons, Nat.succ_mul]; omega
theorem HoldsE.rangeAt {α : Type} {k : Nat} {enc : α → List Value} {w : World} {a : Option Addr} {len cap : Nat} {l : List α} (h : HoldsE k enc w a len cap l) (hp : 0 < len) : ∃ b off, a = some ⟨b, off, none⟩ ∧ b < w.heap.size ∧ ∀ j x, l[j]? = some x → w.rangeAt b (off + j * k) (enc x) := by
  obtain ⟨b, off, e, hlt, hc⟩ := h.2.2.2.2 hp
  exact ⟨b, off, e, hlt, fun j x hx i v hv => hc j x hx i v hv⟩
theorem rangeAt_below {w W : World} {b o : Nat} {cs : List Value} (h : w.rangeAt b o cs) (hb : Below w.heap.size w W) : W.rangeAt b o cs := fun j v hv => keepc hb (h j v hv)
set_option maxRecDepth 100000 in
theorem sizeLease : (Try.prog.info? 138).map (·.size) = some 8 := by kernel_rfl
set_option maxRecDepth 100000 in
set_option maxHeartbeats 8000000 in
theorem wlLease {α : Type} (enc : α → List Value) (hk : ∀ x, (enc x).length = 8) (ho : ∀ x, ∀ u ∈ enc x, u.oneCell' = true) (en : α → List Int) (fl : α → Bool) (M : Nat) (p : Nat) (a : Option Addr) (n c : Nat) (xs : List α) (w0 w : World) (v0 : Value) (l0 : List Int) (lg bz : Bool) (h : Wr w p v0 l0 lg bz) (hb : Below w0.heap.size w0 w) (hp : w0.heap.size ≤ p) (hx : HoldsE 8 enc w0 a n c xs)
    (hel : ∀ x ∈ xs, ∀ (W : World) (v : Value) (l : List Int) (lg bz : Bool), Wr W p v l lg bz → Below w0.heap.size w0 W → l.length + M ≤ 140737488355328 → Calls Try.prog 74 #[.pointer (some ⟨p, 0, none⟩), .agg (enc x).toArray] W fun e w' => (∃ r, e = .returned r) ∧ ∃ v', Wr w' p v' (l ++ en x) (lg || fl x) bz ∧ WK p v W w' v')
    (hlen : ∀ x ∈ xs, (en x).length ≤ M) (hm : l0.length + 9 + 1025 * M ≤ 140737488355328) :
    Calls Try.prog 73 #[.pointer (some ⟨p, 0, none⟩), .slice a n c, .func (.func 74) #[.pointer (some ⟨p, 0, none⟩)] #[]] w fun e w' => (∃ r, e = .returned r) ∧ ∃ v', Wr w' p v' (l0 ++ listW en xs) (lg || flW fl xs) bz ∧ WK p v0 w w' v' := by
  have HW0 := hid h
  have HN := hid hx.1
  have tcap := hx.2.1
  have tcm := hx.2.2.1
  by_cases hn : 1024 < n
  · have t : decide ((1024 : Int) < (n : Int)) = true := by simp; omega
    have E : Hid (listW en xs = []) := by unfold Hid listW; rw [if_pos (by rw [HN.out]; exact hn)]
    have T : Hid (flW fl xs = true) := by unfold Hid flW; rw [if_pos (by rw [HN.out]; exact hn)]
    have c1 := h.1.1.2.1
    have f1 := h.1.2.2.1
    clear h hx hn hel hlen
    go_enter Try.func73, Try.ntmps73
    go_wp2_with fail
    first | go_end0 | (refine bodyPost_ret (results_none rfl _ _ _) rfl ?_)
    refine ⟨⟨_, rfl⟩, v0, ?_, wr_below⟩
    rw [E.out, List.append_nil, T.out, Bool.or_true]
    exact wr_long HW0.out
  · have t : decide ((1024 : Int) < (n : Int)) = false := by simp; omega
    have E : Hid (listW en xs = numB (n : Int) ++ xs.flatMap en) := by unfold Hid listW listE; rw [if_neg (by rw [HN.out]; exact hn), HN.out]
    have T : Hid (flW fl xs = xs.any fl) := by unfold Hid flW; rw [if_neg (by rw [HN.out]; exact hn)]
    have htn : n ≤ 1024 := by omega
    have NU := hid (cnumber_any p (n : Int) w v0 l0 lg bz h (by omega) (by omega) (by omega))
    have hl9 : (numB (n : Int)).length ≤ 9 := by rw [numB_len]; have := shelf_le (n : Int); omega
    have RA := hid (fun hp => hx.rangeAt hp)
    have EL := hid hel
    have LE := hid hlen
    have HB := hid hb
    have HP := hid hp
    have PL := hid h.lt
    clear h hx hn hel hlen hb hp
    go_enter Try.func73, Try.ntmps73
    go_wp2_with fail
    with_reducible refine NU.out.mono ?_
    rintro e w1 ⟨⟨r, rfl⟩, v1, h1, k1⟩
    have H1 := hid h1
    have K1 := hid k1
    have B1 := hid (HB.out.trans ((k1.below PL.out (fun g e => (HW0.out.row g e).1)).mono HP.out))
    have P1 := hid (Nat.lt_of_lt_of_le PL.out k1.size)
    clear NU h1 k1
    generalize numB (n : Int) = NB at *
    go_wp2_with fail
    go_loopw [21] (fun i wr => ∃ k : Nat, k ≤ n ∧ i = .int .i64 (k : Int) ∧ ∃ v', Hid (Wr wr p v' (l0 ++ NB ++ (xs.take k).flatMap en) (lg || (xs.take k).any fl) bz) ∧ Hid (WK p v1 w1 wr v')) (fun i _ => n - (intOf i).toNat)
    case atStart => exact ⟨0, by omega, rfl, v1, by unfold Hid; simpa using H1.out, WK.refl _ _ _⟩
    case round =>
      obtain ⟨k, hk', rfl, v, HW, K0⟩ := hrel
      by_cases hlt : k < n
      · have hlt' : k < xs.length := by rw [HN.out]; exact hlt
        have BR := hid (B1.out.trans ((K0.out.below P1.out (fun g e => (H1.out.row g e).1)).mono HP.out))
        have PR := hid (Nat.lt_of_lt_of_le P1.out K0.out.size)
        obtain ⟨b, off, rfl, hbl, RI⟩ := RA.out (by omega)
        have RG := rangeAt_below (RI k xs[k] (List.getElem?_eq_getElem hlt')) BR.out
        have SN := hid (flat_snoc (en := en) hlt')
        have AN := hid (any_snoc fl hlt')
        have hfl := flat_le (en := en) (xs := xs.take k) (M := M) (fun x hx => LE.out x (List.mem_of_mem_take hx))
        have hmem := List.getElem_mem hlt'
        have ka : (0 : Int) ≤ (k : Int) := by omega
        have kb : (k : Int) < (n : Int) := by omega
        rw [List.length_take] at hfl
        have hkM : (xs.take k).length * M ≤ 1024 * M := Nat.mul_le_mul_right M (by rw [List.length_take]; omega)
        rw [List.length_take] at hkM
        have EX := hid (EL.out xs[k] hmem)
        have HK := hid (hk xs[k])
        have HO := hid (all_oneCell_toArray (ho xs[k]))
        clear RI hmem
        generalize hX : enc xs[k] = X at *
        clear hX
        have hsz : (Try.prog.info? 138).map (·.size) = some X.length := by rw [HK.out]; exact sizeLease
        go_upto_region 6 with (first | refine wpList_load_mid rfl 138 (.tmp 23) rfl _ _ rfl X _ RG Try.underlying138 rfl hsz ?_ | refine wpList_store_row rfl 138 (.tmp 7) (.tmp 24) rfl wr.heap.size X.toArray rfl rfl 138 _ (heap_alloc_new wr _) (by simpa using hsz) (by show 8 = X.toArray.size; rw [List.size_toArray, HK.out]) HO.out ?_)
        rw [alloc_row]
        have b2 := (Below.refl wr.heap.size wr).alloc (Nat.le_refl _) (.cells X.toArray 138)
        have BX := hid (Blk.alloc wr X.toArray (138))
        have HW2 := hid (HW.out.below b2)
        have K2 : Hid (WK p v wr (wr.alloc (.cells X.toArray 138)) v) := WK.of_below b2
        have BR2 := hid (BR.out.alloc BR.out.size (.cells X.toArray 138))
        clear RG b2 BR
        generalize wr.alloc (.cells X.toArray 138) = w2 at *
        have CI := hid (EX.out w2 v _ _ bz HW2.out BR2.out (by simp only [List.length_append]; omega))
        have LD := BX.out.loadAt Try.underlying138 rfl (by simpa using hsz)
        clear hfl hkM
        go_wp2_with (refine wpList_load_at 138 rfl (.tmp 7) rfl _ _ rfl _ LD ?_)
        with_reducible refine CI.out.mono ?_
        rintro e w3 ⟨⟨r2, rfl⟩, v2, h2, k2⟩
        have H2 := hid h2
        have K3 := hid (K0.out.trans (K2.out.trans k2))
        clear CI h2 k2 HW HW2 K0 K2 LD BX BR2 EX
        go_wp2_with fail
        refine ⟨⟨k + 1, by omega, by go_num, v2, by unfold Hid; rw [SN.out, AN.out, ← List.append_assoc, ← Bool.or_assoc]; exact H2.out, K3⟩, ?_⟩
        simp [intOf]; omega
      · obtain rfl : n = k := by omega
        have e : xs.take n = xs := List.take_of_length_le (by rw [HN.out]; exact Nat.le_refl _)
        rw [e] at HW
        have KF := hid (K1.out.trans K0.out)
        go_wp2_with fail
        first | go_end0 | (refine bodyPost_ret (results_none rfl _ _ _) rfl ?_)
        refine ⟨⟨_, rfl⟩, v, ?_, KF.out⟩
        rw [E.out, T.out, ← List.append_assoc]
        exact HW.out
end Go.Proofs.Ythkbddnkcljjpaa

namespace Go.Proofs.Ythkbddnkcljjpaa
open Go.RowKit Go.Deep Go.Maps
set_option linter.unusedVariables false
set_option linter.unusedSimpArgs false
set_option maxRecDepth 100000 in
set_option maxHeartbeats 8000000 in
theorem wlQueue {α : Type} (enc : α → List Value) (hk : ∀ x, (enc x).length = 7) (ho : ∀ x, ∀ u ∈ enc x, u.oneCell' = true) (en : α → List Int) (fl : α → Bool) (M : Nat) (p : Nat) (a : Option Addr) (n c : Nat) (xs : List α) (w0 w : World) (v0 : Value) (l0 : List Int) (lg bz : Bool) (h : Wr w p v0 l0 lg bz) (hb : Below w0.heap.size w0 w) (hp : w0.heap.size ≤ p) (hx : HoldsE 7 enc w0 a n c xs)
    (hel : ∀ x ∈ xs, ∀ (W : World) (v : Value) (l : List Int) (lg bz : Bool), Wr W p v l lg bz → Below w0.heap.size w0 W → l.length + M ≤ 140737488355328 → Calls Try.prog 77 #[.pointer (some ⟨p, 0, none⟩), .agg (enc x).toArray] W fun e w' => (∃ r, e = .returned r) ∧ ∃ v', Wr w' p v' (l ++ en x) (lg || fl x) bz ∧ WK p v W w' v')
    (hlen : ∀ x ∈ xs, (en x).length ≤ M) (hm : l0.length + 9 + 1025 * M ≤ 140737488355328) :
    Calls Try.prog 76 #[.pointer (some ⟨p, 0, none⟩), .slice a n c, .func (.func 77) #[.pointer (some ⟨p, 0, none⟩)] #[]] w fun e w' => (∃ r, e = .returned r) ∧ ∃ v', Wr w' p v' (l0 ++ listW en xs) (lg || flW fl xs) bz ∧ WK p v0 w w' v' := by
  have HW0 := hid h
  have HN := hid hx.1
  have tcap := hx.2.1
  have tcm := hx.2.2.1
  by_cases hn : 1024 < n
  · have t : decide ((1024 : Int) < (n : Int)) = true := by simp; omega
    have E : Hid (listW en xs = []) := by unfold Hid listW; rw [if_pos (by rw [HN.out]; exact hn)]
    have T : Hid (flW fl xs = true) := by unfold Hid flW; rw [if_pos (by rw [HN.out]; exact hn)]
    have c1 := h.1.1.2.1
    have f1 := h.1.2.2.1
    clear h hx hn hel hlen
    go_enter Try.func76, Try.ntmps76
    go_wp2_with fail
    first | go_end0 | (refine bodyPost_ret (results_none rfl _ _ _) rfl ?_)
    refine ⟨⟨_, rfl⟩, v0, ?_, wr_below⟩
    rw [E.out, List.append_nil, T.out, Bool.or_true]
    exact wr_long HW0.out
  · have t : decide ((1024 : Int) < (n : Int)) = false := by simp; omega
    have E : Hid (listW en xs = numB (n : Int) ++ xs.flatMap en) := by unfold Hid listW listE; rw [if_neg (by rw [HN.out]; exact hn), HN.out]
    have T : Hid (flW fl xs = xs.any fl) := by unfold Hid flW; rw [if_neg (by rw [HN.out]; exact hn)]
    have htn : n ≤ 1024 := by omega
    have NU := hid (cnumber_any p (n : Int) w v0 l0 lg bz h (by omega) (by omega) (by omega))
    have hl9 : (numB (n : Int)).length ≤ 9 := by rw [numB_len]; have := shelf_le (n : Int); omega
    have RA := hid (fun hp => hx.rangeAt hp)
    have EL := hid hel
    have LE := hid hlen
    have HB := hid hb
    have HP := hid hp
    have PL := hid h.lt
    clear h hx hn hel hlen hb hp
    go_enter Try.func76, Try.ntmps76
    go_wp2_with fail
    with_reducible refine NU.out.mono ?_
    rintro e w1 ⟨⟨r, rfl⟩, v1, h1, k1⟩
    have H1 := hid h1
    have K1 := hid k1
    have B1 := hid (HB.out.trans ((k1.below PL.out (fun g e => (HW0.out.row g e).1)).mono HP.out))
    have P1 := hid (Nat.lt_of_lt_of_le PL.out k1.size)
    clear NU h1 k1
    generalize numB (n : Int) = NB at *
    go_wp2_with fail
    go_loopw [21] (fun i wr => ∃ k : Nat, k ≤ n ∧ i = .int .i64 (k : Int) ∧ ∃ v', Hid (Wr wr p v' (l0 ++ NB ++ (xs.take k).flatMap en) (lg || (xs.take k).any fl) bz) ∧ Hid (WK p v1 w1 wr v')) (fun i _ => n - (intOf i).toNat)
    case atStart => exact ⟨0, by omega, rfl, v1, by unfold Hid; simpa using H1.out, WK.refl _ _ _⟩
    case round =>
      obtain ⟨k, hk', rfl, v, HW, K0⟩ := hrel
      by_cases hlt : k < n
      · have hlt' : k < xs.length := by rw [HN.out]; exact hlt
        have BR := hid (B1.out.trans ((K0.out.below P1.out (fun g e => (H1.out.row g e).1)).mono HP.out))
        have PR := hid (Nat.lt_of_lt_of_le P1.out K0.out.size)
        obtain ⟨b, off, rfl, hbl, RI⟩ := RA.out (by omega)
        have RG := rangeAt_below (RI k xs[k] (List.getElem?_eq_getElem hlt')) BR.out
        have SN := hid (flat_snoc (en := en) hlt')
        have AN := hid (any_snoc fl hlt')
        have hfl := flat_le (en := en) (xs := xs.take k) (M := M) (fun x hx => LE.out x (List.mem_of_mem_take hx))
        have hmem := List.getElem_mem hlt'
        have ka : (0 : Int) ≤ (k : Int) := by omega
        have kb : (k : Int) < (n : Int) := by omega
        rw [List.length_take] at hfl
        have hkM : (xs.take k).length * M ≤ 1024 * M := Nat.mul_le_mul_right M (by rw [List.length_take]; omega)
        rw [List.length_take] at hkM
        have EX := hid (EL.out xs[k] hmem)
        have HK := hid (hk xs[k])
        have HO := hid (all_oneCell_toArray (ho xs[k]))
        clear RI hmem
        generalize hX : enc xs[k] = X at *
        clear hX
        have hsz : (Try.prog.info? 25).map (·.size) = some X.length := by rw [HK.out]; exact sizeQue
        go_upto_region 6 with (first | refine wpList_load_mid rfl 25 (.tmp 23) rfl _ _ rfl X _ RG Try.underlying25 rfl hsz ?_ | refine wpList_store_row rfl 25 (.tmp 7) (.tmp 24) rfl wr.heap.size X.toArray rfl rfl 25 _ (heap_alloc_new wr _) (by simpa using hsz) (by show 7 = X.toArray.size; rw [List.size_toArray, HK.out]) HO.out ?_)
        rw [alloc_row]
        have b2 := (Below.refl wr.heap.size wr).alloc (Nat.le_refl _) (.cells X.toArray 25)
        have BX := hid (Blk.alloc wr X.toArray (25))
        have HW2 := hid (HW.out.below b2)
        have K2 : Hid (WK p v wr (wr.alloc (.cells X.toArray 25)) v) := WK.of_below b2
        have BR2 := hid (BR.out.alloc BR.out.size (.cells X.toArray 25))
        clear RG b2 BR
        generalize wr.alloc (.cells X.toArray 25) = w2 at *
        have CI := hid (EX.out w2 v _ _ bz HW2.out BR2.out (by simp only [List.length_append]; omega))
        have LD := BX.out.loadAt Try.underlying25 rfl (by simpa using hsz)
        clear hfl hkM
        go_wp2_with (refine wpList_load_at 25 rfl (.tmp 7) rfl _ _ rfl _ LD ?_)
        with_reducible refine CI.out.mono ?_
        rintro e w3 ⟨⟨r2, rfl⟩, v2, h2, k2⟩
        have H2 := hid h2
        have K3 := hid (K0.out.trans (K2.out.trans k2))
        clear CI h2 k2 HW HW2 K0 K2 LD BX BR2 EX
        go_wp2_with fail
        refine ⟨⟨k + 1, by omega, by go_num, v2, by unfold Hid; rw [SN.out, AN.out, ← List.append_assoc, ← Bool.or_assoc]; exact H2.out, K3⟩, ?_⟩
        simp [intOf]; omega
      · obtain rfl : n = k := by omega
        have e : xs.take n = xs := List.take_of_length_le (by rw [HN.out]; exact Nat.le_refl _)
        rw [e] at HW
        have KF := hid (K1.out.trans K0.out)
        go_wp2_with fail
        first | go_end0 | (refine bodyPost_ret (results_none rfl _ _ _) rfl ?_)
        refine ⟨⟨_, rfl⟩, v, ?_, KF.out⟩
        rw [E.out, T.out, ← List.append_assoc]
        exact HW.out
set_option maxRecDepth 100000 in
set_option maxHeartbeats 8000000 in
theorem wlNode {α : Type} (enc : α → List Value) (hk : ∀ x, (enc x).length = 5) (ho : ∀ x, ∀ u ∈ enc x, u.oneCell' = true) (en : α → List Int) (fl : α → Bool) (M : Nat) (p : Nat) (a : Option Addr) (n c : Nat) (xs : List α) (w0 w : World) (v0 : Value) (l0 : List Int) (lg bz : Bool) (h : Wr w p v0 l0 lg bz) (hb : Below w0.heap.size w0 w) (hp : w0.heap.size ≤ p) (hx : HoldsE 5 enc w0 a n c xs)
    (hel : ∀ x ∈ xs, ∀ (W : World) (v : Value) (l : List Int) (lg bz : Bool), Wr W p v l lg bz → Below w0.heap.size w0 W → l.length + M ≤ 140737488355328 → Calls Try.prog 79 #[.pointer (some ⟨p, 0, none⟩), .agg (enc x).toArray] W fun e w' => (∃ r, e = .returned r) ∧ ∃ v', Wr w' p v' (l ++ en x) (lg || fl x) bz ∧ WK p v W w' v')
    (hlen : ∀ x ∈ xs, (en x).length ≤ M) (hm : l0.length + 9 + 1025 * M ≤ 140737488355328) :
    Calls Try.prog 78 #[.pointer (some ⟨p, 0, none⟩), .slice a n c, .func (.func 79) #[.pointer (some ⟨p, 0, none⟩)] #[]] w fun e w' => (∃ r, e = .returned r) ∧ ∃ v', Wr w' p v' (l0 ++ listW en xs) (lg || flW fl xs) bz ∧ WK p v0 w w' v' := by
  have HW0 := hid h
  have HN := hid hx.1
  have tcap := hx.2.1
  have tcm := hx.2.2.1
  by_cases hn : 1024 < n
  · have t : decide ((1024 : Int) < (n : Int)) = true := by simp; omega
    have E : Hid (listW en xs = []) := by unfold Hid listW; rw [if_pos (by rw [HN.out]; exact hn)]
    have T : Hid (flW fl xs = true) := by unfold Hid flW; rw [if_pos (by rw [HN.out]; exact hn)]
    have c1 := h.1.1.2.1
    have f1 := h.1.2.2.1
    clear h hx hn hel hlen
    go_enter Try.func78, Try.ntmps78
    go_wp2_with fail
    first | go_end0 | (refine bodyPost_ret (results_none rfl _ _ _) rfl ?_)
    refine ⟨⟨_, rfl⟩, v0, ?_, wr_below⟩
    rw [E.out, List.append_nil, T.out, Bool.or_true]
    exact wr_long HW0.out
  · have t : decide ((1024 : Int) < (n : Int)) = false := by simp; omega
    have E : Hid (listW en xs = numB (n : Int) ++ xs.flatMap en) := by unfold Hid listW listE; rw [if_neg (by rw [HN.out]; exact hn), HN.out]
    have T : Hid (flW fl xs = xs.any fl) := by unfold Hid flW; rw [if_neg (by rw [HN.out]; exact hn)]
    have htn : n ≤ 1024 := by omega
    have NU := hid (cnumber_any p (n : Int) w v0 l0 lg bz h (by omega) (by omega) (by omega))
    have hl9 : (numB (n : Int)).length ≤ 9 := by rw [numB_len]; have := shelf_le (n : Int); omega
    have RA := hid (fun hp => hx.rangeAt hp)
    have EL := hid hel
    have LE := hid hlen
    have HB := hid hb
    have HP := hid hp
    have PL := hid h.lt
    clear h hx hn hel hlen hb hp
    go_enter Try.func78, Try.ntmps78
    go_wp2_with fail
    with_reducible refine NU.out.mono ?_
    rintro e w1 ⟨⟨r, rfl⟩, v1, h1, k1⟩
    have H1 := hid h1
    have K1 := hid k1
    have B1 := hid (HB.out.trans ((k1.below PL.out (fun g e => (HW0.out.row g e).1)).mono HP.out))
    have P1 := hid (Nat.lt_of_lt_of_le PL.out k1.size)
    clear NU h1 k1
    generalize numB (n : Int) = NB at *
    go_wp2_with fail
    go_loopw [21] (fun i wr => ∃ k : Nat, k ≤ n ∧ i = .int .i64 (k : Int) ∧ ∃ v', Hid (Wr wr p v' (l0 ++ NB ++ (xs.take k).flatMap en) (lg || (xs.take k).any fl) bz) ∧ Hid (WK p v1 w1 wr v')) (fun i _ => n - (intOf i).toNat)
    case atStart => exact ⟨0, by omega, rfl, v1, by unfold Hid; simpa using H1.out, WK.refl _ _ _⟩
    case round =>
      obtain ⟨k, hk', rfl, v, HW, K0⟩ := hrel
      by_cases hlt : k < n
      · have hlt' : k < xs.length := by rw [HN.out]; exact hlt
        have BR := hid (B1.out.trans ((K0.out.below P1.out (fun g e => (H1.out.row g e).1)).mono HP.out))
        have PR := hid (Nat.lt_of_lt_of_le P1.out K0.out.size)
        obtain ⟨b, off, rfl, hbl, RI⟩ := RA.out (by omega)
        have RG := rangeAt_below (RI k xs[k] (List.getElem?_eq_getElem hlt')) BR.out
        have SN := hid (flat_snoc (en := en) hlt')
        have AN := hid (any_snoc fl hlt')
        have hfl := flat_le (en := en) (xs := xs.take k) (M := M) (fun x hx => LE.out x (List.mem_of_mem_take hx))
        have hmem := List.getElem_mem hlt'
        have ka : (0 : Int) ≤ (k : Int) := by omega
        have kb : (k : Int) < (n : Int) := by omega
        rw [List.length_take] at hfl
        have hkM : (xs.take k).length * M ≤ 1024 * M := Nat.mul_le_mul_right M (by rw [List.length_take]; omega)
        rw [List.length_take] at hkM
        have EX := hid (EL.out xs[k] hmem)
        have HK := hid (hk xs[k])
        have HO := hid (all_oneCell_toArray (ho xs[k]))
        clear RI hmem
        generalize hX : enc xs[k] = X at *
        clear hX
        have hsz : (Try.prog.info? 27).map (·.size) = some X.length := by rw [HK.out]; exact sizeNod
        go_upto_region 6 with (first | refine wpList_load_mid rfl 27 (.tmp 23) rfl _ _ rfl X _ RG Try.underlying27 rfl hsz ?_ | refine wpList_store_row rfl 27 (.tmp 7) (.tmp 24) rfl wr.heap.size X.toArray rfl rfl 27 _ (heap_alloc_new wr _) (by simpa using hsz) (by show 5 = X.toArray.size; rw [List.size_toArray, HK.out]) HO.out ?_)
        rw [alloc_row]
        have b2 := (Below.refl wr.heap.size wr).alloc (Nat.le_refl _) (.cells X.toArray 27)
        have BX := hid (Blk.alloc wr X.toArray (27))
        have HW2 := hid (HW.out.below b2)
        have K2 : Hid (WK p v wr (wr.alloc (.cells X.toArray 27)) v) := WK.of_below b2
        have BR2 := hid (BR.out.alloc BR.out.size (.cells X.toArray 27))
        clear RG b2 BR
        generalize wr.alloc (.cells X.toArray 27) = w2 at *
        have CI := hid (EX.out w2 v _ _ bz HW2.out BR2.out (by simp only [List.length_append]; omega))
        have LD := BX.out.loadAt Try.underlying27 rfl (by simpa using hsz)
        clear hfl hkM
        go_wp2_with (refine wpList_load_at 27 rfl (.tmp 7) rfl _ _ rfl _ LD ?_)
        with_reducible refine CI.out.mono ?_
        rintro e w3 ⟨⟨r2, rfl⟩, v2, h2, k2⟩
        have H2 := hid h2
        have K3 := hid (K0.out.trans (K2.out.trans k2))
        clear CI h2 k2 HW HW2 K0 K2 LD BX BR2 EX
        go_wp2_with fail
        refine ⟨⟨k + 1, by omega, by go_num, v2, by unfold Hid; rw [SN.out, AN.out, ← List.append_assoc, ← Bool.or_assoc]; exact H2.out, K3⟩, ?_⟩
        simp [intOf]; omega
      · obtain rfl : n = k := by omega
        have e : xs.take n = xs := List.take_of_length_le (by rw [HN.out]; exact Nat.le_refl _)
        rw [e] at HW
        have KF := hid (K1.out.trans K0.out)
        go_wp2_with fail
        first | go_end0 | (refine bodyPost_ret (results_none rfl _ _ _) rfl ?_)
        refine ⟨⟨_, rfl⟩, v, ?_, KF.out⟩
        rw [E.out, T.out, ← List.append_assoc]
        exact HW.out
set_option maxRecDepth 100000 in
set_option maxHeartbeats 8000000 in
theorem wlTask {α : Type} (enc : α → List Value) (hk : ∀ x, (enc x).length = 7) (ho : ∀ x, ∀ u ∈ enc x, u.oneCell' = true) (en : α → List Int) (fl : α → Bool) (M : Nat) (p : Nat) (a : Option Addr) (n c : Nat) (xs : List α) (w0 w : World) (v0 : Value) (l0 : List Int) (lg bz : Bool) (h : Wr w p v0 l0 lg bz) (hb : Below w0.heap.size w0 w) (hp : w0.heap.size ≤ p) (hx : HoldsE 7 enc w0 a n c xs)
    (hel : ∀ x ∈ xs, ∀ (W : World) (v : Value) (l : List Int) (lg bz : Bool), Wr W p v l lg bz → Below w0.heap.size w0 W → l.length + M ≤ 140737488355328 → Calls Try.prog 81 #[.pointer (some ⟨p, 0, none⟩), .agg (enc x).toArray] W fun e w' => (∃ r, e = .returned r) ∧ ∃ v', Wr w' p v' (l ++ en x) (lg || fl x) bz ∧ WK p v W w' v')
    (hlen : ∀ x ∈ xs, (en x).length ≤ M) (hm : l0.length + 9 + 1025 * M ≤ 140737488355328) :
    Calls Try.prog 80 #[.pointer (some ⟨p, 0, none⟩), .slice a n c, .func (.func 81) #[.pointer (some ⟨p, 0, none⟩)] #[]] w fun e w' => (∃ r, e = .returned r) ∧ ∃ v', Wr w' p v' (l0 ++ listW en xs) (lg || flW fl xs) bz ∧ WK p v0 w w' v' := by
  have HW0 := hid h
  have HN := hid hx.1
  have tcap := hx.2.1
  have tcm := hx.2.2.1
  by_cases hn : 1024 < n
  · have t : decide ((1024 : Int) < (n : Int)) = true := by simp; omega
    have E : Hid (listW en xs = []) := by unfold Hid listW; rw [if_pos (by rw [HN.out]; exact hn)]
    have T : Hid (flW fl xs = true) := by unfold Hid flW; rw [if_pos (by rw [HN.out]; exact hn)]
    have c1 := h.1.1.2.1
    have f1 := h.1.2.2.1
    clear h hx hn hel hlen
    go_enter Try.func80, Try.ntmps80
    go_wp2_with fail
    first | go_end0 | (refine bodyPost_ret (results_none rfl _ _ _) rfl ?_)
    refine ⟨⟨_, rfl⟩, v0, ?_, wr_below⟩
    rw [E.out, List.append_nil, T.out, Bool.or_true]
    exact wr_long HW0.out
  · have t : decide ((1024 : Int) < (n : Int)) = false := by simp; omega
    have E : Hid (listW en xs = numB (n : Int) ++ xs.flatMap en) := by unfold Hid listW listE; rw [if_neg (by rw [HN.out]; exact hn), HN.out]
    have T : Hid (flW fl xs = xs.any fl) := by unfold Hid flW; rw [if_neg (by rw [HN.out]; exact hn)]
    have htn : n ≤ 1024 := by omega
    have NU := hid (cnumber_any p (n : Int) w v0 l0 lg bz h (by omega) (by omega) (by omega))
    have hl9 : (numB (n : Int)).length ≤ 9 := by rw [numB_len]; have := shelf_le (n : Int); omega
    have RA := hid (fun hp => hx.rangeAt hp)
    have EL := hid hel
    have LE := hid hlen
    have HB := hid hb
    have HP := hid hp
    have PL := hid h.lt
    clear h hx hn hel hlen hb hp
    go_enter Try.func80, Try.ntmps80
    go_wp2_with fail
    with_reducible refine NU.out.mono ?_
    rintro e w1 ⟨⟨r, rfl⟩, v1, h1, k1⟩
    have H1 := hid h1
    have K1 := hid k1
    have B1 := hid (HB.out.trans ((k1.below PL.out (fun g e => (HW0.out.row g e).1)).mono HP.out))
    have P1 := hid (Nat.lt_of_lt_of_le PL.out k1.size)
    clear NU h1 k1
    generalize numB (n : Int) = NB at *
    go_wp2_with fail
    go_loopw [21] (fun i wr => ∃ k : Nat, k ≤ n ∧ i = .int .i64 (k : Int) ∧ ∃ v', Hid (Wr wr p v' (l0 ++ NB ++ (xs.take k).flatMap en) (lg || (xs.take k).any fl) bz) ∧ Hid (WK p v1 w1 wr v')) (fun i _ => n - (intOf i).toNat)
    case atStart => exact ⟨0, by omega, rfl, v1, by unfold Hid; simpa using H1.out, WK.refl _ _ _⟩
    case round =>
      obtain ⟨k, hk', rfl, v, HW, K0⟩ := hrel
      by_cases hlt : k < n
      · have hlt' : k < xs.length := by rw [HN.out]; exact hlt
        have BR := hid (B1.out.trans ((K0.out.below P1.out (fun g e => (H1.out.row g e).1)).mono HP.out))
        have PR := hid (Nat.lt_of_lt_of_le P1.out K0.out.size)
        obtain ⟨b, off, rfl, hbl, RI⟩ := RA.out (by omega)
        have RG := rangeAt_below (RI k xs[k] (List.getElem?_eq_getElem hlt')) BR.out
        have SN := hid (flat_snoc (en := en) hlt')
        have AN := hid (any_snoc fl hlt')
        have hfl := flat_le (en := en) (xs := xs.take k) (M := M) (fun x hx => LE.out x (List.mem_of_mem_take hx))
        have hmem := List.getElem_mem hlt'
        have ka : (0 : Int) ≤ (k : Int) := by omega
        have kb : (k : Int) < (n : Int) := by omega
        rw [List.length_take] at hfl
        have hkM : (xs.take k).length * M ≤ 1024 * M := Nat.mul_le_mul_right M (by rw [List.length_take]; omega)
        rw [List.length_take] at hkM
        have EX := hid (EL.out xs[k] hmem)
        have HK := hid (hk xs[k])
        have HO := hid (all_oneCell_toArray (ho xs[k]))
        clear RI hmem
        generalize hX : enc xs[k] = X at *
        clear hX
        have hsz : (Try.prog.info? 30).map (·.size) = some X.length := by rw [HK.out]; exact sizeTask
        go_upto_region 6 with (first | refine wpList_load_mid rfl 30 (.tmp 23) rfl _ _ rfl X _ RG Try.underlying30 rfl hsz ?_ | refine wpList_store_row rfl 30 (.tmp 7) (.tmp 24) rfl wr.heap.size X.toArray rfl rfl 30 _ (heap_alloc_new wr _) (by simpa using hsz) (by show 7 = X.toArray.size; rw [List.size_toArray, HK.out]) HO.out ?_)
        rw [alloc_row]
        have b2 := (Below.refl wr.heap.size wr).alloc (Nat.le_refl _) (.cells X.toArray 30)
        have BX := hid (Blk.alloc wr X.toArray (30))
        have HW2 := hid (HW.out.below b2)
        have K2 : Hid (WK p v wr (wr.alloc (.cells X.toArray 30)) v) := WK.of_below b2
        have BR2 := hid (BR.out.alloc BR.out.size (.cells X.toArray 30))
        clear RG b2 BR
        generalize wr.alloc (.cells X.toArray 30) = w2 at *
        have CI := hid (EX.out w2 v _ _ bz HW2.out BR2.out (by simp only [List.length_append]; omega))
        have LD := BX.out.loadAt Try.underlying30 rfl (by simpa using hsz)
        clear hfl hkM
        go_wp2_with (refine wpList_load_at 30 rfl (.tmp 7) rfl _ _ rfl _ LD ?_)
        with_reducible refine CI.out.mono ?_
        rintro e w3 ⟨⟨r2, rfl⟩, v2, h2, k2⟩
        have H2 := hid h2
        have K3 := hid (K0.out.trans (K2.out.trans k2))
        clear CI h2 k2 HW HW2 K0 K2 LD BX BR2 EX
        go_wp2_with fail
        refine ⟨⟨k + 1, by omega, by go_num, v2, by unfold Hid; rw [SN.out, AN.out, ← List.append_assoc, ← Bool.or_assoc]; exact H2.out, K3⟩, ?_⟩
        simp [intOf]; omega
      · obtain rfl : n = k := by omega
        have e : xs.take n = xs := List.take_of_length_le (by rw [HN.out]; exact Nat.le_refl _)
        rw [e] at HW
        have KF := hid (K1.out.trans K0.out)
        go_wp2_with fail
        first | go_end0 | (refine bodyPost_ret (results_none rfl _ _ _) rfl ?_)
        refine ⟨⟨_, rfl⟩, v, ?_, KF.out⟩
        rw [E.out, T.out, ← List.append_assoc]
        exact HW.out
set_option maxRecDepth 100000 in
theorem sizeHun : (Try.prog.info? 94).map (·.size) = some 2 := by kernel_rfl
set_option maxRecDepth 100000 in
set_option maxHeartbeats 8000000 in
theorem wlHunger {α : Type} (enc : α → List Value) (hk : ∀ x, (enc x).length = 2) (ho : ∀ x, ∀ u ∈ enc x, u.oneCell' = true) (en : α → List Int) (fl : α → Bool) (M : Nat) (p : Nat) (a : Option Addr) (n c : Nat) (xs : List α) (w0 w : World) (v0 : Value) (l0 : List Int) (lg bz : Bool) (h : Wr w p v0 l0 lg bz) (hb : Below w0.heap.size w0 w) (hp : w0.heap.size ≤ p) (hx : HoldsE 2 enc w0 a n c xs)
    (hel : ∀ x ∈ xs, ∀ (W : World) (v : Value) (l : List Int) (lg bz : Bool), Wr W p v l lg bz → Below w0.heap.size w0 W → l.length + M ≤ 140737488355328 → Calls Try.prog 83 #[.pointer (some ⟨p, 0, none⟩), .agg (enc x).toArray] W fun e w' => (∃ r, e = .returned r) ∧ ∃ v', Wr w' p v' (l ++ en x) (lg || fl x) bz ∧ WK p v W w' v')
    (hlen : ∀ x ∈ xs, (en x).length ≤ M) (hm : l0.length + 9 + 1025 * M ≤ 140737488355328) :
    Calls Try.prog 82 #[.pointer (some ⟨p, 0, none⟩), .slice a n c, .func (.func 83) #[.pointer (some ⟨p, 0, none⟩)] #[]] w fun e w' => (∃ r, e = .returned r) ∧ ∃ v', Wr w' p v' (l0 ++ listW en xs) (lg || flW fl xs) bz ∧ WK p v0 w w' v' := by
  have HW0 := hid h
  have HN := hid hx.1
  have tcap := hx.2.1
  have tcm := hx.2.2.1
  by_cases hn : 1024 < n
  · have t : decide ((1024 : Int) < (n : Int)) = true := by simp; omega
    have E : Hid (listW en xs = []) := by unfold Hid listW; rw [if_pos (by rw [HN.out]; exact hn)]
    have T : Hid (flW fl xs = true) := by unfold Hid flW; rw [if_pos (by rw [HN.out]; exact hn)]
    have c1 := h.1.1.2.1
    have f1 := h.1.2.2.1
    clear h hx hn hel hlen
    go_enter Try.func82, Try.ntmps82
    go_wp2_with fail
    first | go_end0 | (refine bodyPost_ret (results_none rfl _ _ _) rfl ?_)
    refine ⟨⟨_, rfl⟩, v0, ?_, wr_below⟩
    rw [E.out, List.append_nil, T.out, Bool.or_true]
    exact wr_long HW0.out
  · have t : decide ((1024 : Int) < (n : Int)) = false := by simp; omega
    have E : Hid (listW en xs = numB (n : Int) ++ xs.flatMap en) := by unfold Hid listW listE; rw [if_neg (by rw [HN.out]; exact hn), HN.out]
    have T : Hid (flW fl xs = xs.any fl) := by unfold Hid flW; rw [if_neg (by rw [HN.out]; exact hn)]
    have htn : n ≤ 1024 := by omega
    have NU := hid (cnumber_any p (n : Int) w v0 l0 lg bz h (by omega) (by omega) (by omega))
    have hl9 : (numB (n : Int)).length ≤ 9 := by rw [numB_len]; have := shelf_le (n : Int); omega
    have RA := hid (fun hp => hx.rangeAt hp)
    have EL := hid hel
    have LE := hid hlen
    have HB := hid hb
    have HP := hid hp
    have PL := hid h.lt
    clear h hx hn hel hlen hb hp
    go_enter Try.func82, Try.ntmps82
    go_wp2_with fail
    with_reducible refine NU.out.mono ?_
    rintro e w1 ⟨⟨r, rfl⟩, v1, h1, k1⟩
    have H1 := hid h1
    have K1 := hid k1
    have B1 := hid (HB.out.trans ((k1.below PL.out (fun g e => (HW0.out.row g e).1)).mono HP.out))
    have P1 := hid (Nat.lt_of_lt_of_le PL.out k1.size)
    clear NU h1 k1
    generalize numB (n : Int) = NB at *
    go_wp2_with fail
    go_loopw [21] (fun i wr => ∃ k : Nat, k ≤ n ∧ i = .int .i64 (k : Int) ∧ ∃ v', Hid (Wr wr p v' (l0 ++ NB ++ (xs.take k).flatMap en) (lg || (xs.take k).any fl) bz) ∧ Hid (WK p v1 w1 wr v')) (fun i _ => n - (intOf i).toNat)
    case atStart => exact ⟨0, by omega, rfl, v1, by unfold Hid; simpa using H1.out, WK.refl _ _ _⟩
    case round =>
      obtain ⟨k, hk', rfl, v, HW, K0⟩ := hrel
      by_cases hlt : k < n
      · have hlt' : k < xs.length := by rw [HN.out]; exact hlt
        have BR := hid (B1.out.trans ((K0.out.below P1.out (fun g e => (H1.out.row g e).1)).mono HP.out))
        have PR := hid (Nat.lt_of_lt_of_le P1.out K0.out.size)
        obtain ⟨b, off, rfl, hbl, RI⟩ := RA.out (by omega)
        have RG := rangeAt_below (RI k xs[k] (List.getElem?_eq_getElem hlt')) BR.out
        have SN := hid (flat_snoc (en := en) hlt')
        have AN := hid (any_snoc fl hlt')
        have hfl := flat_le (en := en) (xs := xs.take k) (M := M) (fun x hx => LE.out x (List.mem_of_mem_take hx))
        have hmem := List.getElem_mem hlt'
        have ka : (0 : Int) ≤ (k : Int) := by omega
        have kb : (k : Int) < (n : Int) := by omega
        rw [List.length_take] at hfl
        have hkM : (xs.take k).length * M ≤ 1024 * M := Nat.mul_le_mul_right M (by rw [List.length_take]; omega)
        rw [List.length_take] at hkM
        have EX := hid (EL.out xs[k] hmem)
        have HK := hid (hk xs[k])
        have HO := hid (all_oneCell_toArray (ho xs[k]))
        clear RI hmem
        generalize hX : enc xs[k] = X at *
        clear hX
        have hsz : (Try.prog.info? 94).map (·.size) = some X.length := by rw [HK.out]; exact sizeHun
        go_upto_region 6 with (first | refine wpList_load_mid rfl 94 (.tmp 23) rfl _ _ rfl X _ RG Try.underlying94 rfl hsz ?_ | refine wpList_store_row rfl 94 (.tmp 7) (.tmp 24) rfl wr.heap.size X.toArray rfl rfl 94 _ (heap_alloc_new wr _) (by simpa using hsz) (by show 2 = X.toArray.size; rw [List.size_toArray, HK.out]) HO.out ?_)
        rw [alloc_row]
        have b2 := (Below.refl wr.heap.size wr).alloc (Nat.le_refl _) (.cells X.toArray 94)
        have BX := hid (Blk.alloc wr X.toArray (94))
        have HW2 := hid (HW.out.below b2)
        have K2 : Hid (WK p v wr (wr.alloc (.cells X.toArray 94)) v) := WK.of_below b2
        have BR2 := hid (BR.out.alloc BR.out.size (.cells X.toArray 94))
        clear RG b2 BR
        generalize wr.alloc (.cells X.toArray 94) = w2 at *
        have CI := hid (EX.out w2 v _ _ bz HW2.out BR2.out (by simp only [List.length_append]; omega))
        have LD := BX.out.loadAt Try.underlying94 rfl (by simpa using hsz)
        clear hfl hkM
        go_wp2_with (refine wpList_load_at 94 rfl (.tmp 7) rfl _ _ rfl _ LD ?_)
        with_reducible refine CI.out.mono ?_
        rintro e w3 ⟨⟨r2, rfl⟩, v2, h2, k2⟩
        have H2 := hid h2
        have K3 := hid (K0.out.trans (K2.out.trans k2))
        clear CI h2 k2 HW HW2 K0 K2 LD BX BR2 EX
        go_wp2_with fail
        refine ⟨⟨k + 1, by omega, by go_num, v2, by unfold Hid; rw [SN.out, AN.out, ← List.append_assoc, ← Bool.or_assoc]; exact H2.out, K3⟩, ?_⟩
        simp [intOf]; omega
      · obtain rfl : n = k := by omega
        have e : xs.take n = xs := List.take_of_length_le (by rw [HN.out]; exact Nat.le_refl _)
        rw [e] at HW
        have KF := hid (K1.out.trans K0.out)
        go_wp2_with fail
        first | go_end0 | (refine bodyPost_ret (results_none rfl _ _ _) rfl ?_)
        refine ⟨⟨_, rfl⟩, v, ?_, KF.out⟩
        rw [E.out, T.out, ← List.append_assoc]
        exact HW.out
end Go.Proofs.Ythkbddnkcljjpaa

namespace Go.Proofs.Ythkbddnkcljjpaa
open Go.RowKit Go.Deep Go.Maps
set_option linter.unusedVariables false
set_option linter.unusedSimpArgs false

/-- A flag's bytes. -/
def flagZ (b : Bool) : List Int := numB (if b then 1 else 0)
theorem flagZ_len (b : Bool) : (flagZ b).length ≤ 9 := by unfold flagZ; rw [numB_len]; have := shelf_le (if b then (1 : Int) else 0); omega
set_option maxRecDepth 100000 in
set_option maxHeartbeats 4000000 in
theorem cflag_any (p : Nat) (b : Bool) (w : World) (v : Value) (l : List Int) (lg bz : Bool) (h : Wr w p v l lg bz) (hm : l.length + 9 ≤ 140737488355328) :
    Calls Try.prog 105 #[.pointer (some ⟨p, 0, none⟩), .bool b] w fun e w' => (∃ r, e = .returned r) ∧ ∃ v', Wr w' p v' (l ++ flagZ b) lg bz ∧ WK p v w w' v' := by
  cases b
  · have C := hid (cnumber_any p 0 w v l lg bz h (by omega) (by omega) hm)
    clear h hm
    go_enter Try.func105, Try.ntmps105
    go_wp2_with fail
    with_reducible refine C.out.mono ?_
    rintro e w1 ⟨⟨r, rfl⟩, v1, h1, k1⟩
    have H1 := hid h1
    have K1 := hid k1
    clear C h1 k1
    go_wp2_with fail
    first | go_end0 | (refine bodyPost_ret (results_none rfl _ _ _) rfl ?_)
    exact ⟨⟨_, rfl⟩, v1, H1.out, K1.out⟩
  · have C := hid (cnumber_any p 1 w v l lg bz h (by omega) (by omega) hm)
    clear h hm
    go_enter Try.func105, Try.ntmps105
    go_wp2_with fail
    with_reducible refine C.out.mono ?_
    rintro e w1 ⟨⟨r, rfl⟩, v1, h1, k1⟩
    have H1 := hid h1
    have K1 := hid k1
    clear C h1 k1
    go_wp2_with fail
    first | go_end0 | (refine bodyPost_ret (results_none rfl _ _ _) rfl ?_)
    exact ⟨⟨_, rfl⟩, v1, H1.out, K1.out⟩
/-- A lease's bytes. -/
def leaseZ (a b c : Int) (tk : List Int) (d e f : Int) (g : Bool) : List Int := bytesZ [a, b, c] ++ (listZ tk ++ (bytesZ [d, e, f] ++ flagZ g))
theorem leaseZ_len (a b c : Int) (tk : List Int) (d e f : Int) (g : Bool) : (leaseZ a b c tk d e f g).length ≤ 9400 := by
  have h1 := bytesZ_len [a, b, c]
  have h2 := bytesZ_len [d, e, f]
  have h3 := listZ_len tk
  have h4 := flagZ_len g
  unfold leaseZ
  simp only [List.length_append, List.length_cons, List.length_nil] at *
  omega
set_option maxRecDepth 100000 in
set_option maxHeartbeats 8000000 in
theorem clease_any (p : Nat) (la lb lc : Int) (ta : Option Addr) (tn tc : Nat) (tk : List Int) (ld le lf : Int) (lh : Bool) (w : World) (v : Value) (l : List Int) (lg bz : Bool) (h : Wr w p v l lg bz) (ila : I64 la) (ilb : I64 lb) (ilc : I64 lc) (ild : I64 ld) (ile : I64 le) (ilf : I64 lf) (ht : HoldsP p w ta tn tc tk) (hx : ∀ x ∈ tk, I64 x) (hm : l.length + 9500 ≤ 140737488355328) :
    Calls Try.prog 74 #[.pointer (some ⟨p, 0, none⟩), .agg #[.int .i64 la, .int .i64 lb, .int .i64 lc, .slice ta tn tc, .int .i64 ld, .int .i64 le, .int .i64 lf, .bool lh]] w fun e w' => (∃ r, e = .returned r) ∧ ∃ v', Wr w' p v' (l ++ leaseZ la lb lc tk ld le lf lh) (lg || decide (1024 < tn)) bz ∧ WK p v w w' v' := by
  have HW := hid h
  have HP := h.lt
  have HRO := h.row
  have HX := hid hx
  go_enter Try.func74, Try.ntmps74
  go_upto_region 1 with fail
  have K0 : Hid (WK p v w (w.alloc (.cells #[.int .i64 la, .int .i64 lb, .int .i64 lc, .slice ta tn tc, .int .i64 ld, .int .i64 le, .int .i64 lf, .bool lh] 138)) v) := WK.of_below ((Below.refl _ w).alloc (Nat.le_refl _) _)
  have H0 := hid (HW.out.below ((Below.refl w.heap.size w).alloc (Nat.le_refl _) (.cells #[.int .i64 la, .int .i64 lb, .int .i64 lc, .slice ta tn tc, .int .i64 ld, .int .i64 le, .int .i64 lf, .bool lh] 138)))
  have T := hid (ht.wk K0.out (fun g e => (HRO g e).1))
  have BX := hid (Box.alloc w #[.int .i64 la, .int .i64 lb, .int .i64 lc, .slice ta tn tc, .int .i64 ld, .int .i64 le, .int .i64 lf, .bool lh] (138))
  have NB0 : v.ownBlock ≠ some w.heap.size := fun e => by have := HRO _ e; omega
  have hQp : w.heap.size ≠ p := by omega
  have hQl : w.heap.size < (w.alloc (.cells #[.int .i64 la, .int .i64 lb, .int .i64 lc, .slice ta tn tc, .int .i64 ld, .int .i64 le, .int .i64 lf, .bool lh] 138)).heap.size := by simp
  clear HW HP HRO h ht hx
  generalize (w.alloc (.cells #[.int .i64 la, .int .i64 lb, .int .i64 lc, .slice ta tn tc, .int .i64 ld, .int .i64 le, .int .i64 lf, .bool lh] 138)) = W0 at *
  generalize w.heap.size = QK at *
  have C1 := hid (ints_lit p [la, lb, lc] W0 v l _ _ H0.out #[.int .i64 la, .int .i64 lb, .int .i64 lc] rfl 3 rfl (by decide) (by intro x hx; simp only [List.mem_cons, List.not_mem_nil, or_false] at hx; rcases hx with rfl | rfl | rfl <;> assumption) (by omega))
  have y0 := BX.out 0 (.int .i64 la) rfl
  have y1 := BX.out 1 (.int .i64 lb) rfl
  have y2 := BX.out 2 (.int .i64 lc) rfl
  go_wp2_with fail
  with_reducible refine C1.out.mono ?_
  clear y0 y1 y2
  rintro e W1 ⟨⟨r1, rfl⟩, v1, h1, k1⟩
  replace BX := hid (BX.out.wk k1 hQp NB0)
  have hQl1 := Nat.lt_of_lt_of_le hQl k1.size
  have NB1 : v1.ownBlock ≠ some QK := fun e => by rcases k1.row _ e with e | e; exact NB0 e; have := hQl; omega
  replace T := hid (T.out.wk k1 (fun g e => (H0.out.row g e).1))
  have H1 := hid h1
  have K1 := hid (K0.out.trans k1)
  clear C1 h1 k1 H0 K0
  have C2 := hid (clist_any p ta tn tc tk W1 v1 (l ++ bytesZ [la, lb, lc]) _ _ H1.out T.out HX.out (by have b0 := bytesZ_len [la, lb, lc]; simp only [List.length_append, List.length_cons, List.length_nil] at *; omega))
  have y3 := BX.out 3 (.slice ta tn tc) rfl
  go_wp2_with fail
  with_reducible refine C2.out.mono ?_
  clear y3
  rintro e W2 ⟨⟨r2, rfl⟩, v2, h2, k2⟩
  replace BX := hid (BX.out.wk k2 hQp NB1)
  have hQl2 := Nat.lt_of_lt_of_le hQl1 k2.size
  have NB2 : v2.ownBlock ≠ some QK := fun e => by rcases k2.row _ e with e | e; exact NB1 e; have := hQl1; omega
  replace T := hid (T.out.wk k2 (fun g e => (H1.out.row g e).1))
  have H2 := hid h2
  have K2 := hid (K1.out.trans k2)
  clear C2 h2 k2 H1 K1
  have C3 := hid (ints64_lit p [ld, le, lf] W2 v2 ((l ++ bytesZ [la, lb, lc]) ++ listZ tk) _ _ H2.out #[.int .i64 ld, .int .i64 le, .int .i64 lf] rfl 3 rfl (by decide) (by intro x hx; simp only [List.mem_cons, List.not_mem_nil, or_false] at hx; rcases hx with rfl | rfl | rfl <;> assumption) (by have b0 := bytesZ_len [la, lb, lc]; have bt := listZ_len tk; simp only [List.length_append, List.length_cons, List.length_nil] at *; omega))
  have y4 := BX.out 4 (.int .i64 ld) rfl
  have y5 := BX.out 5 (.int .i64 le) rfl
  have y6 := BX.out 6 (.int .i64 lf) rfl
  go_wp2_with fail
  with_reducible refine C3.out.mono ?_
  clear y4 y5 y6
  rintro e W3 ⟨⟨r3, rfl⟩, v3, h3, k3⟩
  replace BX := hid (BX.out.wk k3 hQp NB2)
  have hQl3 := Nat.lt_of_lt_of_le hQl2 k3.size
  have NB3 : v3.ownBlock ≠ some QK := fun e => by rcases k3.row _ e with e | e; exact NB2 e; have := hQl2; omega
  replace T := hid (T.out.wk k3 (fun g e => (H2.out.row g e).1))
  have H3 := hid h3
  have K3 := hid (K2.out.trans k3)
  clear C3 h3 k3 H2 K2
  have C4 := hid (cflag_any p lh W3 v3 (((l ++ bytesZ [la, lb, lc]) ++ listZ tk) ++ bytesZ [ld, le, lf]) _ _ H3.out (by have b0 := bytesZ_len [la, lb, lc]; have b1 := bytesZ_len [ld, le, lf]; have bt := listZ_len tk; simp only [List.length_append, List.length_cons, List.length_nil] at *; omega))
  have y7 := BX.out 7 (.bool lh) rfl
  go_wp2_with fail
  with_reducible refine C4.out.mono ?_
  clear y7
  rintro e W4 ⟨⟨r4, rfl⟩, v4, h4, k4⟩
  replace BX := hid (BX.out.wk k4 hQp NB3)
  have hQl4 := Nat.lt_of_lt_of_le hQl3 k4.size
  have NB4 : v4.ownBlock ≠ some QK := fun e => by rcases k4.row _ e with e | e; exact NB3 e; have := hQl3; omega
  replace T := hid (T.out.wk k4 (fun g e => (H3.out.row g e).1))
  have H4 := hid h4
  have K4 := hid (K3.out.trans k4)
  clear C4 h4 k4 H3 K3
  go_wp2_with fail
  first | go_end0 | (refine bodyPost_ret (results_none rfl _ _ _) rfl ?_)
  exact ⟨⟨_, rfl⟩, _, by simpa [leaseZ, bytesZ, List.append_assoc] using H4.out, K4.out⟩

set_option maxRecDepth 100000 in
set_option maxHeartbeats 8000000 in
theorem chunger_any (p : Nat) (ha hb : Int) (w : World) (v : Value) (l : List Int) (lg bz : Bool) (h : Wr w p v l lg bz) (iha : I64 ha) (ihb : I64 hb) (hm : l.length + 18 ≤ 140737488355328) :
    Calls Try.prog 83 #[.pointer (some ⟨p, 0, none⟩), .agg #[.int .i64 ha, .int .i64 hb]] w fun e w' => (∃ r, e = .returned r) ∧ ∃ v', Wr w' p v' (l ++ bytesZ [ha, hb]) lg bz ∧ WK p v w w' v' := by
  have HW := hid h
  have HP := h.lt
  have HRO := h.row
  go_enter Try.func83, Try.ntmps83
  go_upto_region 1 with fail
  have K0 : Hid (WK p v w (w.alloc (.cells #[.int .i64 ha, .int .i64 hb] 94)) v) := WK.of_below ((Below.refl _ w).alloc (Nat.le_refl _) _)
  have H0 := hid (HW.out.below ((Below.refl w.heap.size w).alloc (Nat.le_refl _) (.cells #[.int .i64 ha, .int .i64 hb] 94)))
  have BX := hid (Box.alloc w #[.int .i64 ha, .int .i64 hb] (94))
  have NB0 : v.ownBlock ≠ some w.heap.size := fun e => by have := HRO _ e; omega
  have hQp : w.heap.size ≠ p := by omega
  have hQl : w.heap.size < (w.alloc (.cells #[.int .i64 ha, .int .i64 hb] 94)).heap.size := by simp
  clear HW HP HRO h
  generalize (w.alloc (.cells #[.int .i64 ha, .int .i64 hb] 94)) = W0 at *
  generalize w.heap.size = QK at *
  have C1 := hid (ints_lit p [ha] W0 v l _ _ H0.out #[.int .i64 ha] rfl 1 rfl (by decide) (by intro x hx; simp only [List.mem_cons, List.not_mem_nil, or_false] at hx; rcases hx with rfl <;> assumption) (by omega))
  have y0 := BX.out 0 (.int .i64 ha) rfl
  go_wp2_with fail
  with_reducible refine C1.out.mono ?_
  clear y0
  rintro e W1 ⟨⟨r1, rfl⟩, v1, h1, k1⟩
  replace BX := hid (BX.out.wk k1 hQp NB0)
  have hQl1 := Nat.lt_of_lt_of_le hQl k1.size
  have NB1 : v1.ownBlock ≠ some QK := fun e => by rcases k1.row _ e with e | e; exact NB0 e; have := hQl; omega
  have H1 := hid h1
  have K1 := hid (K0.out.trans k1)
  clear C1 h1 k1 H0 K0
  have C2 := hid (ints64_lit p [hb] W1 v1 (l ++ bytesZ [ha]) _ _ H1.out #[.int .i64 hb] rfl 1 rfl (by decide) (by intro x hx; simp only [List.mem_cons, List.not_mem_nil, or_false] at hx; rcases hx with rfl <;> assumption) (by have b0 := bytesZ_len [ha]; simp only [List.length_append, List.length_cons, List.length_nil] at *; omega))
  have y1 := BX.out 1 (.int .i64 hb) rfl
  go_wp2_with fail
  with_reducible refine C2.out.mono ?_
  clear y1
  rintro e W2 ⟨⟨r2, rfl⟩, v2, h2, k2⟩
  replace BX := hid (BX.out.wk k2 hQp NB1)
  have hQl2 := Nat.lt_of_lt_of_le hQl1 k2.size
  have NB2 : v2.ownBlock ≠ some QK := fun e => by rcases k2.row _ e with e | e; exact NB1 e; have := hQl1; omega
  have H2 := hid h2
  have K2 := hid (K1.out.trans k2)
  clear C2 h2 k2 H1 K1
  go_wp2_with fail
  first | go_end0 | (refine bodyPost_ret (results_none rfl _ _ _) rfl ?_)
  exact ⟨⟨_, rfl⟩, _, by simpa [bytesZ, List.append_assoc] using H2.out, K2.out⟩

end Go.Proofs.Ythkbddnkcljjpaa
