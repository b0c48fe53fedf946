/-
  The document's answer for queues: children, leaves, paths, all below a queue.
-/
import Derived.Test.YtdbkjcnanffibaaQW
import Derived.Test.YtdbkjcnanffibaaQR
import Derived.Test.YtdbkjcnanffibaaQS
namespace Go.Proofs.Ytdbkjcnanffibaa
open Go.RowKit Go.Deep Go.Maps Go.Shelf
set_option linter.unusedVariables false

theorem encN_one (x : Int) : ∀ u ∈ encN x, u.oneCell' = true := by intro u hu; simp [encN] at hu; subst hu; rfl

section
variable {ops : Array Oper} {rest : List Oper} {o : Oper} {a : Act} {Q : Exit → Act → World → Prop}
/-- 'append(m, x)' of numbers. -/
theorem push_ownN (wr : World) (x : Int) (hg : o.guard = none) (s y : Operand) (hop : o.op = Op.call { callee := Callee.builtin Builtin.append, args := #[s, y], argTypes := #[36, 36] })
    (base n : Nat) (v : Value) (l : List Int) (hs : a.eval s = v) (hown : OwnN base wr v n l) (hb : base ≤ wr.heap.size) (hx : a.eval y = .slice (some ⟨wr.heap.size, 0, none⟩) 1 1) (b1 : n + 1 ≤ 1000000)
    (hK : ∀ v' w', OwnN base w' v' (n + 1) (l ++ [x]) → Below base wr w' → wr.grownBy w' v.ownBlock → wpList Try.prog ops Q rest (a.put o.dst v') w') :
    wpList Try.prog ops Q (o :: rest) a (wr.alloc (.cells #[.int .i64 x] 3)) :=
  push_ownE 36 3 (.int .i64 0) 8 encN_len encN_one Try.underlying36 infoN rfl (by decide) wr x hg s y hop base n v l _ rfl hs hown hb hx (by omega) (by omega) hK
end

theorem idsAt_snoc {l : List Qu} (ps : List (Fin l.length)) (x : Fin l.length) : idsAt l (ps ++ [x]) = idsAt l ps ++ [(qa l x.val).id] := by unfold idsAt; simp

/-- Is a queue that is there a leaf? -/
theorem leafB_ids {l : List Qu} {id : Int} : (((idsAt l (kids l id)).length : Int) == 0) = leafB l id := by
  unfold leafB idsAt
  cases kids l id with
  | nil => rfl
  | cons x y => simp; omega

end Go.Proofs.Ytdbkjcnanffibaa
