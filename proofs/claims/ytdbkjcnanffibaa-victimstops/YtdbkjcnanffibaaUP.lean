/-
  The document's answers of victim: insert.
-/
import Derived.Test.YtdbkjcnanffibaaUF
namespace Go.Proofs.Ytdbkjcnanffibaa
open Go.RowKit Go.Deep Go.Maps Go.Shelf
set_option linter.unusedVariables false
set_option linter.unusedSimpArgs false

/-- Has a greater number come among the first k? -/
def putK (l : List Int) (n : Int) : Nat → Bool
  | 0 => false
  | k + 1 => putK l n k || decide (n < l[k]?.getD 0)
/-- What is laid of the first k. -/
def insK (l : List Int) (n : Int) : Nat → List Int
  | 0 => []
  | k + 1 => (if putK l n k = false ∧ n < l[k]?.getD 0 then insK l n k ++ [n] else insK l n k) ++ [l[k]?.getD 0]
/-- The document's insert. -/
def insD (l : List Int) (n : Int) : List Int := if putK l n l.length = false then insK l n l.length ++ [n] else insK l n l.length
theorem insK_le {l : List Int} {n : Int} : ∀ k, (insK l n k).length ≤ 2 * k := by
  intro k
  induction k with
  | zero => exact Nat.le_refl _
  | succ k ih =>
    unfold insK
    split <;> simp <;> omega

set_option maxRecDepth 100000 in
set_option maxHeartbeats 4000000 in
theorem rinsert_any (a : Option Addr) (len cap : Nat) (l : List Int) (n : Int) (w : World) (h : HoldsN w a len cap l) (hn : len * 32 ≤ 140737488355328) :
    Calls Try.prog 23 #[.slice a len cap, .int .i64 n] w fun e w' => ∃ v, e = .returned v ∧ OwnN w.heap.size w' v (insD l n).length (insD l n) ∧ Below w.heap.size w w' := by
  have HH := hid h
  have HL := hid h.1
  clear h
  go_enter Try.func23, Try.ntmps23
  go_wp2_with fail
  go_loopw [5, 6, 11] (fun s p i wr => ∃ k : Nat, k ≤ len ∧ i = .int .i64 (k : Int) ∧ p = .bool (putK l n k) ∧ Hid (OwnN w.heap.size wr s (insK l n k).length (insK l n k)) ∧ Hid (Below w.heap.size w wr)) (fun s p i _ => len - (intOf i).toNat)
  case atStart => exact ⟨0, by omega, rfl, rfl, OwnE.nil _ _ _ _ _, Below.refl _ _⟩
  case round =>
    obtain ⟨k, hk, rfl, rfl, hO, hB⟩ := hrel
    have hle := insK_le (l := l) (n := n) k
    by_cases hlt : k < len
    · obtain ⟨b, off, rfl, RI⟩ := HH.out.rowN (by omega)
      have c0 := keepc hB.out (RI k hlt)
      have ka : (0 : Int) ≤ (k : Int) := by omega
      have kb : (k : Int) < (len : Int) := by omega
      have NP : Hid (putK l n (k + 1) = (putK l n k || decide (n < l[k]?.getD 0))) := rfl
      have NI : Hid (insK l n (k + 1) = (if putK l n k = false ∧ n < l[k]?.getD 0 then insK l n k ++ [n] else insK l n k) ++ [l[k]?.getD 0]) := rfl
      clear RI
      generalize l[k]?.getD 0 = x at *
      generalize putK l n k = p at *
      generalize hm : insK l n k = m at *
      clear hm
      by_cases hp : p = false ∧ n < x
      · obtain ⟨rfl, hx⟩ := hp
        have NP2 : Hid (putK l n (k + 1) = true) := by unfold Hid; rw [NP.out]; simp [hx]
        have NI2 : Hid (insK l n (k + 1) = m ++ [n] ++ [x]) := by unfold Hid; rw [NI.out, if_pos ⟨rfl, hx⟩]
        have t : decide (n < x) = true := by simp [hx]
        clear NP NI
        go_wp2_with (at_builtin; refine push_ownE 36 3 _ 8 encN_len encN_one Try.underlying36 infoN rfl (by decide) wr n rfl (.tmp 22) (.tmp 24) rfl w.heap.size m.length u5 _ _ rfl rfl hO.out hB.out.size rfl (by omega) (by omega) ?_)
        intro v1 w1 h1 h2 _
        have O1 := hid h1
        have B1 := hid (hB.out.trans h2)
        clear h1 h2
        go_wp2_with (at_builtin; refine push_ownE 36 3 _ 8 encN_len encN_one Try.underlying36 infoN rfl (by decide) w1 x rfl (.tmp 26) (.tmp 28) rfl w.heap.size (m.length + 1) v1 _ _ rfl rfl O1.out B1.out.size rfl (by omega) (by omega) ?_)
        intro v2 w2 h1 h2 _
        have O2 := hid h1
        have B2 := hid (B1.out.trans h2)
        clear h1 h2
        go_wp2_with fail
        refine ⟨⟨k + 1, by omega, by go_num, by rw [NP2.out], by unfold Hid; rw [NI2.out]; simpa using O2.out, B2⟩, ?_⟩
        simp [intOf]; omega
      · have NP2 : Hid (putK l n (k + 1) = p) := by
          unfold Hid; rw [NP.out]
          cases p
          · have : ¬ n < x := fun hx => hp ⟨rfl, hx⟩
            simp [this]
          · rfl
        have NI2 : Hid (insK l n (k + 1) = m ++ [x]) := by unfold Hid; rw [NI.out, if_neg hp]
        clear NP NI
        cases p
        · have t : decide (n < x) = false := by simp; exact Int.not_lt.1 (fun hx => hp ⟨rfl, hx⟩)
          clear hp
          go_wp2_with (at_builtin; refine push_ownE 36 3 _ 8 encN_len encN_one Try.underlying36 infoN rfl (by decide) wr x rfl (.tmp 26) (.tmp 28) rfl w.heap.size m.length u5 _ _ rfl rfl hO.out hB.out.size rfl (by omega) (by omega) ?_)
          intro v2 w2 h1 h2 _
          have O2 := hid h1
          have B2 := hid (hB.out.trans h2)
          clear h1 h2
          go_wp2_with fail
          refine ⟨⟨k + 1, by omega, by go_num, by rw [NP2.out], by unfold Hid; rw [NI2.out]; simpa using O2.out, B2⟩, ?_⟩
          simp [intOf]; omega
        · clear hp
          go_wp2_with (at_builtin; refine push_ownE 36 3 _ 8 encN_len encN_one Try.underlying36 infoN rfl (by decide) wr x rfl (.tmp 26) (.tmp 28) rfl w.heap.size m.length u5 _ _ rfl rfl hO.out hB.out.size rfl (by omega) (by omega) ?_)
          intro v2 w2 h1 h2 _
          have O2 := hid h1
          have B2 := hid (hB.out.trans h2)
          clear h1 h2
          go_wp2_with fail
          refine ⟨⟨k + 1, by omega, by go_num, by rw [NP2.out], by unfold Hid; rw [NI2.out]; simpa using O2.out, B2⟩, ?_⟩
          simp [intOf]; omega
    · obtain rfl : k = len := by omega
      have ND : Hid (insD l n = if putK l n k = false then insK l n k ++ [n] else insK l n k) := by unfold Hid insD; rw [HL.out]
      generalize putK l n k = p at *
      generalize hm : insK l n k = m at *
      clear hm
      cases p
      · have ND2 : Hid (insD l n = m ++ [n]) := ND.out
        clear ND
        go_wp2_with (at_builtin; refine push_ownE 36 3 _ 8 encN_len encN_one Try.underlying36 infoN rfl (by decide) wr n rfl (.tmp 33) (.tmp 35) rfl w.heap.size m.length u5 _ _ rfl rfl hO.out hB.out.size rfl (by omega) (by omega) ?_)
        intro v2 w2 h1 h2 _
        have O2 : Hid (OwnN w.heap.size w2 v2 (insD l n).length (insD l n)) := by unfold Hid; rw [ND2.out]; simpa using h1
        have B2 := hid (hB.out.trans h2)
        clear h1 h2
        go_wp2_with fail
        go_ret
        exact ⟨_, rfl, O2.out, B2.out⟩
      · have O2 : Hid (OwnN w.heap.size wr u5 (insD l n).length (insD l n)) := by unfold Hid; rw [ND.out]; simpa using hO.out
        clear ND hO
        go_wp2_with fail
        go_ret
        exact ⟨_, rfl, O2.out, hB.out⟩
end Go.Proofs.Ytdbkjcnanffibaa
