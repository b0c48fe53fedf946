/-
  Contracts of victim: lasting.
-/
import Derived.Test.YtdbkjcnanffibaaUE
namespace Go.Proofs.Ytdbkjcnanffibaa
open Go.RowKit Go.Deep Go.Maps Go.Shelf
set_option linter.unusedVariables false
set_option linter.unusedSimpArgs false

theorem infoLe : (Try.prog.info? 38).map (fun i => (i.zero, i.size, i.bytes)) = some (some (.agg (Le.cs le0).toArray), 8, 80) := by kernel_rfl
/-- Those of the first k leases that aren't on their way out. -/
def lastT (l : List Le) : Nat → List Le
  | 0 => []
  | k + 1 => if (la l k).st = true then lastT l k else lastT l k ++ [la l k]
def lastL (l : List Le) : List Le := lastT l l.length
theorem lastT_le {l : List Le} : ∀ k, (lastT l k).length ≤ k := by
  intro k
  induction k with
  | zero => exact Nat.le_refl _
  | succ k ih =>
    unfold lastT
    split
    · omega
    · simp; omega
theorem lastT_mem {l : List Le} {x : Le} : ∀ {k : Nat}, k ≤ l.length → x ∈ lastT l k → x ∈ l := by
  intro k
  induction k with
  | zero => intro _ h; cases h
  | succ k ih =>
    intro hk h
    unfold lastT at h
    split at h
    · exact ih (by omega) h
    · rcases List.mem_append.1 h with h | h
      · exact ih (by omega) h
      · rw [List.mem_singleton.1 h]; exact la_mem (by omega)
theorem lastL_mem {l : List Le} {x : Le} (h : x ∈ lastL l) : x ∈ l := lastT_mem (Nat.le_refl _) h
theorem lastT_eq {l : List Le} : ∀ {k : Nat}, k ≤ l.length → lastT l k = (l.take k).filter (fun x => !x.st) := by
  intro k
  induction k with
  | zero => intro _; simp [lastT]
  | succ k ih =>
    intro hk
    unfold lastT
    rw [List.take_add_one, la_get (by omega), List.filter_append, ih (by omega)]
    cases h : (la l k).st <;> simp [h]
theorem lastL_eq (l : List Le) : lastL l = l.filter (fun x => !x.st) := by unfold lastL; rw [lastT_eq (Nat.le_refl _), List.take_length]

set_option maxRecDepth 100000 in
set_option maxHeartbeats 4000000 in
theorem lasting_any (a : Option Addr) (len cap : Nat) (l : List Le) (w : World) (h : HoldsL w a len cap l) (hn : len * 80 ≤ 140737488355328) :
    Calls Try.prog 27 #[.slice a len cap] w fun e w' => ∃ v, e = .returned v ∧ OwnE 38 8 Le.cs w.heap.size w' v (lastL l).length (lastL l) ∧ Below w.heap.size w w' := by
  have HQ := hid h
  have HL := hid h.1.1
  have hcap := h.1.2.1
  have hcm := h.1.2.2.1
  clear h
  go_enter Try.func27, Try.ntmps27
  go_wp2_with fail
  go_loopw [3, 8] (fun s i wr => ∃ k : Nat, k ≤ len ∧ i = .int .i64 (k : Int) ∧ Hid (OwnE 38 8 Le.cs w.heap.size wr s (lastT l k).length (lastT l k)) ∧ Hid (Below w.heap.size w wr)) (fun s i _ => len - (intOf i).toNat)
  case atStart => exact ⟨0, by omega, rfl, OwnE.nil _ _ _ _ _, Below.refl _ _⟩
  case round =>
    obtain ⟨k, hk, rfl, hO, hB⟩ := hrel
    by_cases hlt : k < len
    · have hlt' : k < l.length := by rw [HL.out]; exact hlt
      obtain ⟨b, off, rfl, hbl, Rw⟩ := HQ.out.1.rowL (by omega)
      obtain ⟨d1, d2, d3, d4, d5, d6, d7, d8⟩ := Rw k hlt
      have c1 := keepc hB.out d1
      have c2 := keepc hB.out d2
      have c3 := keepc hB.out d3
      have c4 := keepc hB.out d4
      have c5 := keepc hB.out d5
      have c6 := keepc hB.out d6
      have c7 := keepc hB.out d7
      have c8 := keepc hB.out d8
      have ka : (0 : Int) ≤ (k : Int) := by omega
      have kb : (k : Int) < (len : Int) := by omega
      have NX : Hid (lastT l (k + 1) = if (la l k).st = true then lastT l k else lastT l k ++ [la l k]) := rfl
      have hle := lastT_le (l := l) k
      clear d1 d2 d3 d4 d5 d6 d7 d8 Rw
      generalize hx : la l k = x at *
      have HX := hid hx
      clear hx
      generalize hln : (lastT l k).length = ln at *
      have HLN := hid hln
      clear hln
      obtain ⟨x1, x2, x3, sa, sl, sc, x5, x6, x7, x8, co⟩ := x
      simp only at c1 c2 c3 c4 c5 c6 c7 c8 NX
      cases x8
      · have NX2 : Hid (lastT l (k + 1) = lastT l k ++ [⟨x1, x2, x3, sa, sl, sc, x5, x6, x7, false, co⟩]) := by unfold Hid; rw [NX.out]; simp
        have BX := hid (hB.out.alloc hB.out.size (.cells #[.int .i64 x1, .int .i64 x2, .int .i64 x3, .slice sa sl sc, .int .i64 x5, .int .i64 x6, .int .i64 x7, .bool false] 38))
        have OX := hid (hO.out.below ((Below.refl wr.heap.size wr).alloc (Nat.le_refl _) (.cells #[.int .i64 x1, .int .i64 x2, .int .i64 x3, .slice sa sl sc, .int .i64 x5, .int .i64 x6, .int .i64 x7, .bool false] 38)))
        clear NX hO
        go_wp2_with (at_builtin; refine push_ownE 22 38 _ 80 Le.cs_len Le.one Try.underlying22 infoLe rfl (by decide) (wr.alloc (.cells #[.int .i64 x1, .int .i64 x2, .int .i64 x3, .slice sa sl sc, .int .i64 x5, .int .i64 x6, .int .i64 x7, .bool false] 38)) (⟨x1, x2, x3, sa, sl, sc, x5, x6, x7, false, co⟩ : Le) rfl (.tmp 15) (.tmp 17) rfl w.heap.size ln u3 _ _ rfl rfl OX.out BX.out.size (by simp [Act.eval]) (by omega) (by omega) ?_)
        intro v' w1 h1 h2 _
        have O1 := hid h1
        have hB1 := hid (BX.out.trans h2)
        clear h1 h2
        go_wp2_with fail
        refine ⟨⟨k + 1, by omega, by go_num, by unfold Hid; rw [NX2.out, List.length_append, HLN.out]; exact O1.out, hB1⟩, ?_⟩
        simp [intOf]; omega
      · have NX2 : Hid (lastT l (k + 1) = lastT l k) := by unfold Hid; rw [NX.out]; simp
        have BX := hid (hB.out.alloc hB.out.size (.cells #[.int .i64 x1, .int .i64 x2, .int .i64 x3, .slice sa sl sc, .int .i64 x5, .int .i64 x6, .int .i64 x7, .bool true] 38))
        have OX := hid (hO.out.below ((Below.refl wr.heap.size wr).alloc (Nat.le_refl _) (.cells #[.int .i64 x1, .int .i64 x2, .int .i64 x3, .slice sa sl sc, .int .i64 x5, .int .i64 x6, .int .i64 x7, .bool true] 38)))
        clear NX hO
        go_wp2_with fail
        refine ⟨⟨k + 1, by omega, by go_num, by unfold Hid; rw [NX2.out, HLN.out]; exact OX.out, BX⟩, ?_⟩
        simp [intOf]; omega
    · obtain rfl : k = len := by omega
      have O : Hid (OwnE 38 8 Le.cs w.heap.size wr u3 (lastL l).length (lastL l)) := by unfold Hid lastL; rw [HL.out]; exact hO.out
      clear hO
      go_wp2_with fail
      go_ret
      exact ⟨_, rfl, O.out, hB.out⟩
end Go.Proofs.Ytdbkjcnanffibaa
