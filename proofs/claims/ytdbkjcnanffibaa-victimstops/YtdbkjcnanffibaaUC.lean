/-
  Contracts of victim: the queues of sums, sorted.
-/
import Derived.Shelf.SlIterI.Nil
import Derived.Shelf.SortM.Plain
import Derived.Shelf.SortM.SortNone
import Derived.Maps.OwnSet
import Derived.Test.YtdbkjcnanffibaaUA
namespace Go.Proofs.Ytdbkjcnanffibaa
open Go.RowKit Go.Maps Go.Sort Go.Shelf
set_option linter.unusedVariables false

def keysA_ren : Go.Shelf.Ren := ⟨fun | 7 => 37 | 10 => 52 | n => n, fun | 23 => 56 | 26 => 3 | 3 => 32 | 28 => 85 | 0 => 0 | 27 => 84 | 33 => 101 | 4 => 4 | n => n, fun | n => n⟩
theorem keysA : Go.Proofs.SlLaysZI.n7 Try.prog keysA_ren := {
  mixed := by kernel_rfl,
  f7 := ⟨Try.f37.name, by decide, Try.func37.trans (congrArg some (by kernel_rfl))⟩,
  f10 := ⟨Try.f52.name, by decide, Try.func52.trans (congrArg some (by kernel_rfl))⟩,
  t0 := Try.underlying0,
  a0 := Try.isAgg0,
  z0 := Try.sizeOf0,
  v0 := Try.zeroValue0,
  t4 := Try.underlying4,
  a4 := Try.isAgg4,
  z4 := Try.sizeOf4,
  v4 := Try.zeroValue4,
  t23 := Try.underlying56,
  a23 := Try.isAgg56,
  z23 := Try.sizeOf56,
  v23 := Try.zeroValue56,
  t26 := Try.underlying3,
  a26 := Try.isAgg3,
  z26 := Try.sizeOf3,
  v26 := Try.zeroValue3,
  t27 := Try.underlying84,
  a27 := Try.isAgg84,
  z27 := Try.sizeOf84,
  v27 := Try.zeroValue84,
  t28 := Try.underlying85,
  a28 := Try.isAgg85,
  z28 := Try.sizeOf85,
  v28 := Try.zeroValue85,
  t33 := Try.underlying101,
  a33 := Try.isAgg101,
  z33 := Try.sizeOf101,
  v33 := Try.zeroValue101 }
def sortedA_ren : Go.Shelf.Ren := ⟨fun | 6 => 36 | 8 => 50 | 9 => 51 | 11 => 61 | 13 => 63 | 12 => 62 | 23 => 78 | 24 => 79 | 14 => 69 | 15 => 70 | 16 => 71 | 17 => 72 | 18 => 73 | 19 => 74 | 20 => 75 | 21 => 76 | 22 => 77 | 25 => 84 | 26 => 85 | 27 => 86 | 28 => 87 | 29 => 88 | 30 => 89 | 31 => 93 | n => n, fun | 26 => 3 | 28 => 85 | 24 => 36 | 0 => 0 | 3 => 3 | 37 => 110 | 48 => 126 | 50 => 128 | 4 => 4 | 40 => 119 | 39 => 118 | 45 => 104 | 5 => 5 | 9 => 9 | 51 => 133 | 55 => 137 | 57 => 145 | 58 => 146 | 33 => 101 | n => n, fun | n => n⟩
theorem sortedA : Go.Proofs.SlLaysZI.n6 Try.prog sortedA_ren := {
  mixed := by kernel_rfl,
  f6 := ⟨Try.f36.name, by decide, Try.func36.trans (congrArg some (by kernel_rfl))⟩,
  f8 := ⟨Try.f50.name, by decide, Try.func50.trans (congrArg some (by kernel_rfl))⟩,
  f11 := ⟨Try.f61.name, by decide, Try.func61.trans (congrArg some (by kernel_rfl))⟩,
  t0 := Try.underlying0,
  a0 := Try.isAgg0,
  z0 := Try.sizeOf0,
  v0 := Try.zeroValue0,
  t24 := Try.underlying36,
  a24 := Try.isAgg36,
  z24 := Try.sizeOf36,
  v24 := Try.zeroValue36,
  t26 := Try.underlying3,
  a26 := Try.isAgg3,
  z26 := Try.sizeOf3,
  v26 := Try.zeroValue3,
  t28 := Try.underlying85,
  a28 := Try.isAgg85,
  z28 := Try.sizeOf85,
  v28 := Try.zeroValue85,
  i26 := by kernel_rfl }
def sortA_ren : Go.Shelf.Ren := ⟨fun | 5 => 51 | 8 => 63 | 7 => 62 | 19 => 78 | 20 => 79 | 10 => 69 | 11 => 70 | 12 => 71 | 13 => 72 | 14 => 73 | 15 => 74 | 16 => 75 | 17 => 76 | 18 => 77 | 30 => 84 | 31 => 85 | 32 => 86 | 33 => 87 | 34 => 88 | 35 => 89 | 40 => 93 | n => n, fun | 23 => 36 | 25 => 3 | 3 => 3 | 32 => 110 | 22 => 36 | 0 => 0 | 44 => 126 | 46 => 128 | 4 => 4 | 36 => 119 | 35 => 118 | 41 => 104 | 5 => 5 | 9 => 9 | 53 => 133 | 57 => 137 | 63 => 145 | 64 => 146 | n => n, fun | n => n⟩
theorem sortA : Go.Proofs.SlLaysM.n5 Try.prog sortA_ren := {
  mixed := by kernel_rfl,
  f5 := ⟨Try.f51.name, by decide, Try.func51.trans (congrArg some (by kernel_rfl))⟩,
  f7 := ⟨Try.f62.name, by decide, Try.func62.trans (congrArg some (by kernel_rfl))⟩,
  f8 := Try.func63.trans (congrArg some (by kernel_rfl)),
  f10 := ⟨Try.f69.name, by decide, Try.func69.trans (congrArg some (by kernel_rfl))⟩,
  f11 := ⟨Try.f70.name, by decide, Try.func70.trans (congrArg some (by kernel_rfl))⟩,
  f12 := ⟨Try.f71.name, by decide, Try.func71.trans (congrArg some (by kernel_rfl))⟩,
  f13 := ⟨Try.f72.name, by decide, Try.func72.trans (congrArg some (by kernel_rfl))⟩,
  f14 := ⟨Try.f73.name, by decide, Try.func73.trans (congrArg some (by kernel_rfl))⟩,
  f15 := ⟨Try.f74.name, by decide, Try.func74.trans (congrArg some (by kernel_rfl))⟩,
  f16 := ⟨Try.f75.name, by decide, Try.func75.trans (congrArg some (by kernel_rfl))⟩,
  f17 := ⟨Try.f76.name, by decide, Try.func76.trans (congrArg some (by kernel_rfl))⟩,
  f18 := ⟨Try.f77.name, by decide, Try.func77.trans (congrArg some (by kernel_rfl))⟩,
  f19 := Try.func78.trans (congrArg some (by kernel_rfl)),
  f20 := Try.func79.trans (congrArg some (by kernel_rfl)),
  f30 := ⟨Try.f84.name, by decide, Try.func84.trans (congrArg some (by kernel_rfl))⟩,
  f31 := Try.func85.trans (congrArg some (by kernel_rfl)),
  f32 := Try.func86.trans (congrArg some (by kernel_rfl)),
  f33 := ⟨Try.f87.name, by decide, Try.func87.trans (congrArg some (by kernel_rfl))⟩,
  f34 := ⟨Try.f88.name, by decide, Try.func88.trans (congrArg some (by kernel_rfl))⟩,
  f35 := ⟨Try.f89.name, by decide, Try.func89.trans (congrArg some (by kernel_rfl))⟩,
  f40 := ⟨Try.f93.name, by decide, Try.func93.trans (congrArg some (by kernel_rfl))⟩,
  t0 := Try.underlying0,
  a0 := Try.isAgg0,
  z0 := Try.sizeOf0,
  v0 := Try.zeroValue0,
  t3 := Try.underlying3,
  a3 := Try.isAgg3,
  z3 := Try.sizeOf3,
  v3 := Try.zeroValue3,
  t4 := Try.underlying4,
  a4 := Try.isAgg4,
  z4 := Try.sizeOf4,
  v4 := Try.zeroValue4,
  t5 := Try.underlying5,
  a5 := Try.isAgg5,
  z5 := Try.sizeOf5,
  v5 := Try.zeroValue5,
  t9 := Try.underlying9,
  a9 := Try.isAgg9,
  z9 := Try.sizeOf9,
  v9 := Try.zeroValue9,
  t22 := Try.underlying36,
  a22 := Try.isAgg36,
  z22 := Try.sizeOf36,
  v22 := Try.zeroValue36,
  t23 := Try.underlying36,
  a23 := Try.isAgg36,
  z23 := Try.sizeOf36,
  v23 := Try.zeroValue36,
  t25 := Try.underlying3,
  a25 := Try.isAgg3,
  z25 := Try.sizeOf3,
  v25 := Try.zeroValue3,
  t32 := Try.underlying110,
  a32 := Try.isAgg110,
  z32 := Try.sizeOf110,
  v32 := Try.zeroValue110,
  t35 := Try.underlying118,
  a35 := Try.isAgg118,
  z35 := Try.sizeOf118,
  v35 := Try.zeroValue118,
  t36 := Try.underlying119,
  a36 := Try.isAgg119,
  z36 := Try.sizeOf119,
  v36 := Try.zeroValue119,
  t41 := Try.underlying104,
  a41 := Try.isAgg104,
  z41 := Try.sizeOf104,
  v41 := Try.zeroValue104,
  t44 := Try.underlying126,
  a44 := Try.isAgg126,
  z44 := Try.sizeOf126,
  v44 := Try.zeroValue126,
  t46 := Try.underlying128,
  a46 := Try.isAgg128,
  z46 := Try.sizeOf128,
  v46 := Try.zeroValue128,
  t53 := Try.underlying133,
  a53 := Try.isAgg133,
  z53 := Try.sizeOf133,
  v53 := Try.zeroValue133,
  t57 := Try.underlying137,
  a57 := Try.isAgg137,
  z57 := Try.sizeOf137,
  v57 := Try.zeroValue137,
  t63 := Try.underlying145,
  a63 := Try.isAgg145,
  z63 := Try.sizeOf145,
  v63 := Try.zeroValue145,
  t64 := Try.underlying146,
  a64 := Try.isAgg146,
  z64 := Try.sizeOf146,
  v64 := Try.zeroValue146 }

/-- slices.Sort's two contracts at this dump. -/
theorem sortsA (m : Nat) : AnyZI.SortsIn Try.prog sortedA_ren Fence.wide m :=
  ⟨fun blk off cap ss W hH hblk hsz => callsIn_wide.2 (AnyM.slices_Sort_int sortA blk off cap ss W hH hblk hsz),
   fun p cap W => callsIn_wide.2 (AnyM.slices_Sort_int_none sortA p cap W)⟩

theorem ukeys_any (mb : Option Nat) (w : World) : Calls Try.prog 37 #[.map mb] w fun e w' => e = .returned (.func (.func 52) #[] #[.pointer (some ⟨w.heap.size, 0, none⟩)]) ∧ w' = w.alloc (.cells #[.map mb] 56) :=
  callsIn_wide.1 (AnyZI.keys_in keysA Fence.wide 5 trivial rfl mb w)

/-- Numbers that rise are told by what is among them. -/
theorem rise_eq {l l' : List Int} (h : l.Pairwise (· < ·)) (h' : l'.Pairwise (· < ·)) (hm : ∀ x, x ∈ l ↔ x ∈ l') : l = l' := by
  have nd : ∀ {m : List Int}, m.Pairwise (· < ·) → m.Nodup := fun hp => hp.imp (fun hlt => by omega)
  exact List.Perm.eq_of_pairwise (le := fun a b => a < b) (fun a b _ _ h1 h2 => by omega) h h' ((List.perm_ext_iff_of_nodup (nd h) (nd h')).2 hm)

/-- The numbers of a set, rising. -/
def RiseOf (h : Int → Bool) (ids : List Int) : Prop := ids.Pairwise (· < ·) ∧ (∀ x, x ∈ ids ↔ h x = true) ∧ ∀ x ∈ ids, I64 x
theorem RiseOf.eq {h : Int → Bool} {l l' : List Int} (a : RiseOf h l) (b : RiseOf h l') : l = l' := rise_eq a.1 b.1 (fun x => (a.2.1 x).trans (b.2.1 x).symm)

theorem um_keys {w : World} {b n : Nat} {h : Int → Bool} {g : Int → Int × Int} {D : DataW Unit} (hown : w.ownsMap Try.prog 3 vecElem b n D) (hD : ∀ id : Int, Maps.has D (.int .i64 id) = h id ∧ D.atKey (.int .i64 id) (vd (0, 0)) = vd (g id)) {ss : List Int} (hp : ss.Perm (intKeys D)) : RiseOf h (ss.mergeSort (fun x y => decide (x ≤ y))) := by
  have hw := intKeys_wf hown Try.underlying3
  obtain ⟨es, rfl, hpw, _⟩ := hown.entries lawV
  have hmem : ∀ x, x ∈ intKeys (.map es) ↔ h x = true := by
    intro x
    rw [← (hD x).1, has_eq, List.any_eq_true]
    show x ∈ es.map (fun p => Go.intOf p.1) ↔ _
    rw [List.mem_map]
    constructor
    · rintro ⟨p, hp', rfl⟩
      refine ⟨p, hp', ?_⟩
      obtain ⟨es', e1, hko⟩ := hown.keysOf
      cases e1
      obtain ⟨v, hv⟩ := hko p hp'
      obtain ⟨y, _, hy, hl⟩ := Maps.keyOf_i64 Try.underlying3 hv
      rw [hy]; simp [Lit.sameKey, Go.intOf]
    · rintro ⟨p, hp', hs⟩
      refine ⟨p, hp', ?_⟩
      obtain ⟨es', e1, hko⟩ := hown.keysOf
      cases e1
      obtain ⟨v, hv⟩ := hko p hp'
      obtain ⟨y, _, hy, hl⟩ := Maps.keyOf_i64 Try.underlying3 hv
      rw [hy] at hs ⊢
      simpa [Lit.sameKey, Go.intOf] using hs
  have hnd : (intKeys (.map es : DataW Unit)).Nodup := by
    show (es.map fun p => Go.intOf p.1).Nodup
    refine List.pairwise_map.2 (hpw.imp_of_mem fun {p q} hp' hq' hne e => hne ?_)
    obtain ⟨es', e1, hko⟩ := hown.keysOf
    cases e1
    obtain ⟨v, hv⟩ := hko p hp'
    obtain ⟨y, _, hy, _⟩ := Maps.keyOf_i64 Try.underlying3 hv
    obtain ⟨v', hv'⟩ := hko q hq'
    obtain ⟨y', _, hy', _⟩ := Maps.keyOf_i64 Try.underlying3 hv'
    rw [hy, hy'] at e ⊢
    exact congrArg _ e
  have hps := List.mergeSort_perm ss (fun x y => decide (x ≤ y))
  have hpa := hps.trans hp
  have tr : ∀ a b c : Int, decide (a ≤ b) = true → decide (b ≤ c) = true → decide (a ≤ c) = true := fun a b c h1 h2 => by simp only [decide_eq_true_eq] at *; omega
  have to : ∀ a b : Int, (decide (a ≤ b) || decide (b ≤ a)) = true := fun a b => by simp only [Bool.or_eq_true, decide_eq_true_eq]; omega
  have hso := List.pairwise_mergeSort tr to ss
  have hnd2 : (ss.mergeSort (fun x y => decide (x ≤ y))).Nodup := (hpa.nodup_iff).2 hnd
  refine ⟨?_, fun x => (hpa.mem_iff).trans (hmem x), fun x hx => ?_⟩
  · refine (hso.and hnd2).imp ?_
    rintro a b ⟨h1, h2⟩
    have := of_decide_eq_true h1
    omega
  · have := hw x ((hpa.mem_iff).1 hx)
    exact bounds_i64 this

set_option maxHeartbeats 1000000 in
theorem usorted_any {b n : Nat} {h : Int → Bool} {g : Int → Int × Int} (w : World) (hU : UM w b n h g) (hn : n * 8 ≤ 140737488355328) :
    Calls Try.prog 36 #[.func (.func 52) #[] #[.pointer (some ⟨w.heap.size, 0, none⟩)]] (w.alloc (.cells #[.map (some b)] 56)) fun e w' => ∃ (v : Value) (ids : List Int), e = .returned v ∧ RiseOf h ids ∧ ids.length ≤ n ∧
      w'.ownsRow (w.alloc (.cells #[.map (some b)] 56)).heap.size 3 1 v ids.length (ids.map encZ) ∧ (v = .slice none 0 0 ↔ ids = []) ∧ Below (w.alloc (.cells #[.map (some b)] 56)).heap.size (w.alloc (.cells #[.map (some b)] 56)) w' := by
  have hbl := hU.lt
  obtain ⟨D, hown, hD⟩ := hU
  have hsz := hown.size_le
  have hseq : SeqGives Fence.wide 2 Try.prog 52 #[.pointer (some ⟨w.heap.size, 0, none⟩)] encZ (fun ss => ss.Perm (intKeys D)) (Maps.size D) (w.alloc (.cells #[.map (some b)] 56)) :=
    AnyZI.keys_gives (ρ := keysA_ren) { keysA with } Fence.wide _ trivial rfl (by omega) w.heap.size b n D _ (by simp) (by simp) (by
      obtain ⟨es, clock, hb, Ft, hs, hDD⟩ := hown
      exact ⟨es, clock, (Below.heap_alloc _ _ b hbl).trans hb, Ft, hs, hDD⟩)
  have cS := AnyZI.sorted_in sortedA Fence.wide 5 trivial trivial trivial trivial rfl (by omega) (sortsA _) (enters_of Try.func51 (by kernel_rfl) rfl) 52 #[.pointer (some ⟨w.heap.size, 0, none⟩)] trivial (enters_of Try.func52 (by kernel_rfl) rfl) _ _ (by unfold maxLen; omega) (by omega) _ hseq
  refine (callsIn_wide.1 cS).mono ?_
  rintro e w' ⟨v, ss, rfl, hS, hrow, hnil, hb⟩
  have hR := um_keys hown hD hS
  have hl : (ss.mergeSort (fun x y => decide (x ≤ y))).length = ss.length := (List.mergeSort_perm ss _).length_eq
  refine ⟨v, ss.mergeSort (fun x y => decide (x ≤ y)), rfl, hR, ?_, by rw [hl]; exact hrow, ?_, hb⟩
  · rw [hl, hS.length_eq]
    obtain ⟨es, hes, _⟩ := hown.entries lawV
    rw [hes] at hsz ⊢
    simpa [intKeys, Maps.size] using hsz
  · rw [hnil]
    constructor
    · rintro rfl; simp
    · intro e; rw [e] at hl; exact List.length_eq_zero_iff.1 hl.symm
end Go.Proofs.Ytdbkjcnanffibaa
