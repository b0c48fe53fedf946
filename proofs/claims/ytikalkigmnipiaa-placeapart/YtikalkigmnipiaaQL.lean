/-
  Contracts of queue: the Ids at places that are yielded.
-/
import Derived.Test.YtikalkigmnipiaaQD
import Derived.Stop.RegionWithIn
namespace Go.Proofs.Ytikalkigmnipiaa
open Go.RowKit Go.Deep Go.Maps Go.Shelf
set_option linter.unusedVariables false
attribute [local go_sem] Oper.semAt_some

/-- 'append', kept folded. -/
def appF (ats : Array TypeId) (ty : TypeId) (args : Array Value) : Sem Value := Builtin.append_ ats ty args
theorem appF_eq (ats : Array TypeId) (ty : TypeId) (args : Array Value) : Builtin.append_ ats ty args = appF ats ty args := rfl
attribute [local go_sem ↓] appF_eq

/-- A number's cell. -/
def encN (x : Int) : List Value := [.int .i64 x]
theorem encN_len (x : Int) : (encN x).length = 1 := rfl
theorem infoN : (Try.prog.info? 3).map (fun i => (i.zero, i.size, i.bytes)) = some (some (.int .i64 0), 1, 8) := by kernel_rfl
abbrev OwnN (base : Nat) (w : World) (v : Value) (n : Nat) (l : List Int) : Prop := OwnE 3 1 encN base w v n l
abbrev HoldsN (w : World) (a : Option Addr) (len cap : Nat) (l : List Int) : Prop := HoldsE 1 encN w a len cap l

/-- A function value that yields these places, whatever the rounds do to other memory. -/
def Gives (l : List Qu) (gf : Nat) (lbs : Array Value) (ps : List (Fin l.length)) (w : World) : Prop :=
  (∀ args w, (callFunc gf args).run Try.prog w = .ok (.enter gf args) w) ∧ ∀ (W : World) (X N : Nat), Below w.heap.size w W → w.heap.size ≤ X → w.heap.size ≤ N → N ≤ W.heap.size →
    SeqStopsK Fence.wide 4 Try.prog gf lbs (encF l) (Kq X N) (fun xs => xs = ps) (fun pre => pre ≠ [] ∧ pre <+: ps) ps.length W

theorem keepsOthers_grown {W W' : World} {row : Option Nat} (h : W.grownBy W' row) (hr : ∀ g, row = some g → ∃ o : Obj, W.heap[g]? = some o ∧ o.isCells = true) : KeepsOthers W W' := by
  refine ⟨h.size, fun k o hk ho => ?_⟩
  have hlt := (Array.getElem?_eq_some_iff.1 hk).1
  rw [h.block k hlt (fun e => ?_)]
  · exact hk
  · obtain ⟨o', h1, h2⟩ := hr k e.symm
    rw [hk] at h1
    cases h1
    rw [ho] at h2; cases h2
theorem ownsRow_cells {w : World} {base : Nat} {e : TypeId} {size : Nat} {v : Value} {n : Nat} {xs : List Value} (h : w.ownsRow base e size v n xs) : ∀ g, v.ownBlock = some g → ∃ o : Obj, w.heap[g]? = some o ∧ o.isCells = true := by
  intro g hg
  rcases h.2 with ⟨rfl, _⟩ | ⟨g', cap, cur, rfl, hb, hh, _⟩
  · simp [Value.ownBlock] at hg
  · simp [Value.ownBlock] at hg
    subst hg
    exact ⟨_, hh, rfl⟩
theorem OwnE.own {α : Type} {e : TypeId} {k : Nat} {enc : α → List Value} {base n : Nat} {l : List α} {v : Value} {A B : World} {row : Option Nat} (h : OwnE e k enc base A v n l) (hg : A.grownBy B row) (hr : ∀ r, row = some r → ∃ o : Obj, A.heap[r]? = some o ∧ o.isCells = false) : OwnE e k enc base B v n l := by
  refine ⟨h.1, h.2.kept hg ?_⟩
  cases hv : v.ownBlock with
  | none => exact .inl rfl
  | some g =>
    refine .inr (fun e => ?_)
    obtain ⟨o, h1, h2⟩ := ownsRow_cells h.2 g hv
    obtain ⟨o', h3, h4⟩ := hr g e.symm
    rw [h1] at h3; cases h3
    rw [h2] at h4; cases h4

theorem kq_set' {X N : Nat} {A B : World} {o : Nat} {v : Value} (h : Kq X N A B) : Kq X N A (B.setCell ⟨X, o, none⟩ v) := by
  refine ⟨⟨by have := h.1.size; simpa [World.setCell] using this, fun i q hi hq => ?_⟩, fun b hb hx => (Below.heap_setCell _ _ _ _ (by simpa using hx)).trans (h.2 b hb hx)⟩
  have h1 := h.1.same i q hi hq
  exact (KeepsOthers.setCell B ⟨X, o, none⟩ v).same i q h1 (Obj.not_cells_of_walk hq)

end Go.Proofs.Ytikalkigmnipiaa
