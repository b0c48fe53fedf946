/-
  Contracts of command: the reader's int64, int, upTo.
-/
import Derived.Test.YtkjglpgjflkmbaaCL
namespace Go.Proofs.Ytkjglpgjflkmbaa
open Go.RowKit Go.Deep
set_option linter.unusedVariables false
set_option linter.unusedSimpArgs false

/-- What a taken number answers: it, the place, the error. -/
def tkI (l : List Int) (A E : Int) : Int × Int × Int := if E = 0 then (zag (rd l A).1, (rd l A).2.1, (rd l A).2.2) else (0, A, E)
/-- What a number up to 'most' answers. -/
def upT (l : List Int) (A E most f : Int) : Int × Int × Int := if E = 0 then (if most < (rd l A).1 then (0, A, f) else rd l A) else (0, A, E)

set_option maxRecDepth 100000 in
set_option maxHeartbeats 4000000 in
theorem rint64_any (p : Nat) (a : Option Addr) (n c : Nat) (l : List Int) (A E : Int) (w : World) (h : RdC w p (.slice a n c) A E) (hl : HoldsB w a n c l) (hp : I64 A) (hne : ∀ b o, a = some ⟨b, o, none⟩ → 0 < n → b ≠ p) :
    Calls Try.prog 85 #[.pointer (some ⟨p, 0, none⟩)] w fun e w' => e = .returned (.int .i64 (tkI l A E).1) ∧ RdC w' p (.slice a n c) (tkI l A E).2.1 (tkI l A E).2.2 ∧ RK p w w' := by
  by_cases hE : E = 0
  · subst hE
    have C := hid (take64_any p a n c l A w h hl hp hne)
    have T : Hid (tkI l A 0 = (zag (rd l A).1, (rd l A).2.1, (rd l A).2.2)) := by unfold Hid tkI; rw [if_pos rfl]
    clear h hl hp hne
    go_enter Try.func85, Try.ntmps85
    go_wp2_with fail
    with_reducible refine C.out.mono ?_
    rintro e W1 ⟨rfl, h1, h2⟩
    clear C
    go_wp2_with fail
    go_ret
    rw [T.out]
    exact ⟨rfl, h1, h2⟩
  · have C := hid (take64_no p (.slice a n c) A E w h hE)
    have T : Hid (tkI l A E = (0, A, E)) := by unfold Hid tkI; rw [if_neg hE]
    have H := hid h
    clear h hl hp hne hE
    go_enter Try.func85, Try.ntmps85
    go_wp2_with fail
    with_reducible refine C.out.mono ?_
    rintro e W1 ⟨rfl, rfl⟩
    clear C
    go_wp2_with fail
    go_ret
    rw [T.out]
    exact ⟨rfl, H.out, RK.refl _ _⟩

set_option maxRecDepth 100000 in
set_option maxHeartbeats 4000000 in
theorem rint_any (p : Nat) (a : Option Addr) (n c : Nat) (l : List Int) (A E : Int) (w : World) (h : RdC w p (.slice a n c) A E) (hl : HoldsB w a n c l) (hp : I64 A) (hne : ∀ b o, a = some ⟨b, o, none⟩ → 0 < n → b ≠ p) :
    Calls Try.prog 86 #[.pointer (some ⟨p, 0, none⟩)] w fun e w' => e = .returned (.int .i64 (tkI l A E).1) ∧ RdC w' p (.slice a n c) (tkI l A E).2.1 (tkI l A E).2.2 ∧ RK p w w' := by
  have C := hid (rint64_any p a n c l A E w h hl hp hne)
  clear h hl hp hne
  go_enter Try.func86, Try.ntmps86
  go_wp2_with fail
  with_reducible refine C.out.mono ?_
  rintro e W1 ⟨rfl, h1, h2⟩
  clear C
  go_wp2_with fail
  go_ret
  exact ⟨rfl, h1, h2⟩

set_option maxRecDepth 100000 in
set_option maxHeartbeats 4000000 in
theorem upto_any (p : Nat) (a : Option Addr) (n c : Nat) (l : List Int) (A E most f : Int) (w : World) (h : RdC w p (.slice a n c) A E) (hl : HoldsB w a n c l) (hp : I64 A) (hm : 0 ≤ most) (hne : ∀ b o, a = some ⟨b, o, none⟩ → 0 < n → b ≠ p) :
    Calls Try.prog 109 #[.pointer (some ⟨p, 0, none⟩), .int .u64 most, .int .i64 f] w fun e w' => e = .returned (.int .u64 (upT l A E most f).1) ∧ RdC w' p (.slice a n c) (upT l A E most f).2.1 (upT l A E most f).2.2 ∧ RK p w w' := by
  have y1 := h.1.2.1
  by_cases hE : E = 0
  · subst hE
    have C := hid (takeu_any p a n c l A w h hl hp hne)
    by_cases hg : most < (rd l A).1
    · have T : Hid (upT l A 0 most f = (0, A, f)) := by unfold Hid upT; rw [if_pos rfl, if_pos hg]
      clear h hl hp hne
      generalize rd l A = R at *
      obtain ⟨x, B, F⟩ := R
      simp only at hg
      go_enter Try.func109, Try.ntmps109
      go_wp2_with fail
      with_reducible refine C.out.mono ?_
      rintro e W1 ⟨rfl, h1, h2⟩
      clear C y1
      obtain ⟨⟨z0, z1, z2⟩, f0, f1, f2⟩ := h1
      go_wp2_with fail
      go_ret
      rw [T.out]
      refine ⟨rfl, ⟨⟨?_, ?_, ?_⟩, ?_, ?_, ?_⟩, h2.trans ((RK.setCell p 1 _ _).trans (RK.setCell p 2 _ _))⟩ <;> simp [go_sem, z0, z1, z2, f0, f1, f2]
    · have T : Hid (upT l A 0 most f = rd l A) := by unfold Hid upT; rw [if_pos rfl, if_neg hg]
      clear h hl hp hne
      rw [T.out]
      generalize rd l A = R at *
      obtain ⟨x, B, F⟩ := R
      simp only at hg
      go_enter Try.func109, Try.ntmps109
      go_wp2_with fail
      with_reducible refine C.out.mono ?_
      rintro e W1 ⟨rfl, h1, h2⟩
      clear C y1
      go_wp2_with fail
      go_ret
      exact ⟨rfl, h1, h2⟩
  · have C := hid (takeu_no p (.slice a n c) A E w h hE)
    have T : Hid (upT l A E most f = (0, A, E)) := by unfold Hid upT; rw [if_neg hE]
    have H := hid h
    have hg : ¬ most < 0 := by omega
    clear h hl hp hne hE
    go_enter Try.func109, Try.ntmps109
    go_wp2_with fail
    with_reducible refine C.out.mono ?_
    rintro e W1 ⟨rfl, rfl⟩
    clear C y1
    go_wp2_with fail
    go_ret
    rw [T.out]
    exact ⟨rfl, H.out, RK.refl _ _⟩
end Go.Proofs.Ytkjglpgjflkmbaa
