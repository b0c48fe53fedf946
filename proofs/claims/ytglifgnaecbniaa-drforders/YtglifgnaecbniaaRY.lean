/-
  Contracts of queue: Room of a right use; Room whole.
-/
import Derived.Test.YtglifgnaecbniaaRV
import Derived.Test.YtglifgnaecbniaaRQ
namespace Go.Proofs.Ytglifgnaecbniaa
open Go.RowKit Go.Deep Go.Maps Go.Shelf
set_option linter.unusedVariables false
set_option linter.unusedSimpArgs false
attribute [local go_sem] Oper.semAt_some

theorem over_fit {C M mc mm D K : Int} (hq : okv (D, K) = true) (h1 : okv (C, M) = true) (h2 : okv (mc, mm) = true) (h : okv (C + mc, M + mm) = false) : fitB (C + mc) (M + mm) D K = false := by
  have a := okv_true hq
  have b := okv_true h1
  have c := okv_true h2
  have d := okv_false h
  unfold okp at a b c d
  simp only at a b c d
  unfold fitB
  simp
  omega

end Go.Proofs.Ytglifgnaecbniaa
