/-
  Contracts of place: seek.
-/
import Derived.Test.YtikalkigmnipiaaPB
import Derived.Test.YtikalkigmnipiaaPM
import Derived.Test.YtikalkigmnipiaaQO
namespace Go.Proofs.Ytikalkigmnipiaa
open Go.RowKit Go.Deep Go.Maps Go.Shelf
set_option linter.unusedVariables false
set_option linter.unusedSimpArgs false

set_option maxRecDepth 100000 in
theorem sizeR : (Try.prog.info? 80).map (·.size) = some 71 := by kernel_rfl
theorem sizeR' (r : Rm) : (Try.prog.info? 80).map (·.size) = some r.cs.length := by rw [sizeR, Rm.cs_len]
theorem load_room (w : World) (b o : Nat) (r : Rm) (h : w.rangeAt b o r.cs) : (Instr.loadAt 80 (.pointer (some ⟨b, o, none⟩))).run Try.prog w = .ok (.agg r.cs.toArray) w := run_loadAt_mid w b o 80 r.cs _ h Try.underlying80 rfl (sizeR' r)
theorem rangeAt_below {w w' : World} {b o : Nat} {cs : List Value} (h : w.rangeAt b o cs) (hb : Below w.heap.size w w') : w'.rangeAt b o cs := fun j v hv => keepc hb (h j v hv)
theorem rangeAt_drew {w : World} {b o : Nat} {cs : List Value} (h : w.rangeAt b o cs) : w.drew.rangeAt b o cs := fun j v hv => h j v hv
section
variable {ops : Array Oper} {rest : List Oper} {op : Oper} {a : Act} {w : World} {Q : Exit → Act → World → Prop}
theorem wpList_load_room (hw : Region.wanted op (yielded ops a.tmps) = true) (x : Operand) (ho : op.op = .load 80 x) (b o : Nat) (hx : a.eval x = .pointer (some ⟨b, o, none⟩)) (cs : Array Value) (hl : (Instr.loadAt 80 (.pointer (some ⟨b, o, none⟩))).run Try.prog w = .ok (.agg cs) w)
    (h : wpList Try.prog ops Q rest (a.put op.dst (.agg cs)) w) : wpList Try.prog ops Q (op :: rest) a w := by
  refine Go.BigFrame.wpList_want hw fun _ hK => ?_
  unfold Oper.wp execOp
  simp only [ho, hx, Sem.run_bind, Sem.run_pure, hl, Result.andThen_ok]
  exact hK _ _ h
end
/-- The room at a place. -/
def ra (l : List Rm) (i : Nat) : Rm := l[i]?.getD (rm0 nd0)
theorem ra_get {l : List Rm} {i : Nat} (h : i < l.length) : l[i]? = some (ra l i) := by unfold ra; rw [List.getElem?_eq_getElem h]; rfl
theorem HoldsE.rowR {w : World} {a : Option Addr} {len cap : Nat} {l : List Rm} (h : HoldsR w a len cap l) (hp : 0 < len) : ∃ b off, a = some ⟨b, off, none⟩ ∧ b < w.heap.size ∧ ∀ j, j < len → w.rangeAt b (off + j * 71) (ra l j).cs := by
  obtain ⟨h1, h2, h3, h4, h5⟩ := h
  obtain ⟨b, off, e, hlt, hc⟩ := h5 hp
  exact ⟨b, off, e, hlt, fun j hj i v hv => hc j _ (ra_get (by omega)) i v hv⟩
set_option maxRecDepth 100000 in
theorem box_room (r : Rm) (w : World) : (Instr.box 80 (.agg r.cs.toArray)).run Try.prog w = .ok (.pointer (some ⟨w.heap.size, 0, none⟩)) (w.alloc (.cells r.cs.toArray 80)) := by kernel_rfl
theorem room_id (r : Rm) (w : World) (t : TypeId) : (w.alloc (.cells r.cs.toArray t)).cell? ⟨w.heap.size, 0, none⟩ = some (.int .i64 r.nd.id) := by
  rw [cell_of_row _ w.heap.size 0 r.cs.toArray t (0, 0) (heap_alloc_new w _)]
  simp [Rm.cs, Nd.cs]

set_option maxHeartbeats 1000000 in
theorem seek1_any (r : Rm) (id : Int) (w : World) : Calls Try.prog 65 #[.agg r.cs.toArray, .int .i64 id] w fun e w' => e = .returned (.int .i64 (cmpI r.nd.id id)) ∧ Below w.heap.size w w' := by
  have BX := box_room r
  have c0 := room_id r w 80
  have BB : Hid (Below w.heap.size w (w.alloc (.cells r.cs.toArray 80))) := (Below.refl _ w).alloc (Nat.le_refl _) _
  generalize r.cs.toArray = RC at *
  generalize r.nd.id = x at *
  go_enter Try.func65, Try.ntmps65
  go_wp2_with fail
  refine (compare_any _ _ _).mono ?_
  rintro e w1 ⟨rfl, rfl⟩
  go_wp2
  go_ret
  exact ⟨rfl, BB.out⟩

/-- Rooms whose Ids rise. -/
def RiseR (l : List Rm) : Prop := ∀ i j, i < j → j < l.length → (ra l i).nd.id < (ra l j).nd.id
/-- Where a room with an Id stands, or would stand; is it there? -/
def hasR (l : List Rm) (id : Int) : Bool := l.any (fun r => decide (r.nd.id = id))
def atR (l : List Rm) (id : Int) (k : Nat) : Prop := k ≤ l.length ∧ (∀ i, i < k → (ra l i).nd.id < id) ∧ (k < l.length → id ≤ (ra l k).nd.id)
theorem ra_mem {l : List Rm} {i : Nat} (h : i < l.length) : ra l i ∈ l := List.mem_of_getElem? (ra_get h)
theorem atR_has {l : List Rm} {id : Int} {k : Nat} (hR : RiseR l) (h : atR l id k) : hasR l id = (decide (k < l.length) && decide ((ra l k).nd.id = id)) := by
  obtain ⟨h0, h1, h2⟩ := h
  rw [Bool.eq_iff_iff, Bool.and_eq_true, decide_eq_true_eq, decide_eq_true_eq]
  unfold hasR
  rw [List.any_eq_true]
  constructor
  · rintro ⟨r, hr, e⟩
    have e := of_decide_eq_true e
    obtain ⟨i, hi, rfl⟩ := List.getElem_of_mem hr
    have hra : l[i] = ra l i := by unfold ra; rw [List.getElem?_eq_getElem hi]; rfl
    rw [hra] at e
    rcases Nat.lt_trichotomy i k with h | h | h
    · have := h1 i h; omega
    · subst h; exact ⟨hi, e⟩
    · have := hR k i h hi
      have := h2 (by omega)
      omega
  · rintro ⟨hk, e⟩
    exact ⟨_, ra_mem hk, decide_eq_true e⟩

set_option maxRecDepth 100000 in
set_option maxHeartbeats 4000000 in
theorem bsearchR_any (a : Option Addr) (len cap : Nat) (l : List Rm) (id : Int) (w : World) (h : HoldsR w a len cap l) (hle : len ≤ 64) (hS : RiseR l) :
    Calls Try.prog 64 #[.slice a len cap, .int .i64 id, .func (.func 65) #[] #[]] w fun e w' => ∃ k : Nat, e = .returned (.tuple #[.int .i64 (k : Int), .bool (hasR l id)]) ∧ atR l id k ∧ Below w.heap.size w w' := by
  have HH := hid h
  have HL := hid h.1
  have hcap := h.2.1
  have HS := hid hS
  clear h hS
  go_enter Try.func64, Try.ntmps64
  go_wp2_with fail
  go_loopw [9, 10] (fun u v wr => ∃ i j : Nat, i ≤ j ∧ j ≤ len ∧ u = .int .i64 i ∧ v = .int .i64 j ∧ Hid (∀ k, k < i → (ra l k).nd.id < id) ∧ Hid (∀ k, j ≤ k → k < len → id ≤ (ra l k).nd.id) ∧ Hid (Below w.heap.size w wr)) (fun u v _ => (intOf v).toNat - (intOf u).toNat)
  case atStart => exact ⟨0, len, by omega, by omega, rfl, rfl, fun k hk => by omega, fun k h1 h2 => by omega, Below.refl _ _⟩
  case round =>
    obtain ⟨i, j, hij, hj, rfl, rfl, h1, h2, hB⟩ := hrel
    by_cases hlt : i < j
    · have m1 : i ≤ (i + j) / 2 := by omega
      have m2 : (i + j) / 2 < j := by omega
      have ml : (i + j) / 2 < l.length := by rw [HL.out]; omega
      obtain ⟨b, off, rfl, hbl, R⟩ := HH.out.rowR (by omega)
      have LD := hid (load_room wr b _ (ra l ((i + j) / 2)) (rangeAt_below (R ((i + j) / 2) (by omega)) hB.out))
      have CK := hid (seek1_any (ra l ((i + j) / 2)) id wr)
      clear R
      by_cases hc : (ra l ((i + j) / 2)).nd.id < id
      · have t : decide (cmpI (ra l ((i + j) / 2)).nd.id id < 0) = true := by unfold cmpI; rw [if_pos hc]; decide
        have N1 : Hid (∀ k, k < (i + j) / 2 + 1 → (ra l k).nd.id < id) := fun k hk => by
          rcases Nat.lt_or_ge k ((i + j) / 2) with h | h
          · have := HS.out k _ h ml; omega
          · obtain rfl : k = (i + j) / 2 := by omega
            exact hc
        clear hc ml h1
        generalize cmpI (ra l ((i + j) / 2)).nd.id id = C at *
        generalize (ra l ((i + j) / 2)).cs.toArray = RC at *
        go_wp2_with (refine wpList_load_room rfl (.tmp 27) rfl _ _ rfl _ LD.out ?_)
        refine CK.out.mono ?_
        rintro e w1 ⟨rfl, hb1⟩
        have hB1 := hid (hB.out.trans (hb1.mono hB.out.size))
        go_wp2
        go_roundw
        case rel => exact ⟨(i + j) / 2 + 1, j, by omega, hj, by congr 1, rfl, N1, h2, hB1⟩
        case measure => simp [intOf]; omega
      · have t : decide (cmpI (ra l ((i + j) / 2)).nd.id id < 0) = false := by unfold cmpI; rw [if_neg hc]; split <;> decide
        have N1 : Hid (∀ k, (i + j) / 2 ≤ k → k < len → id ≤ (ra l k).nd.id) := fun k hk hk2 => by
          rcases Nat.lt_or_ge ((i + j) / 2) k with h | h
          · have := HS.out _ k h (by rw [HL.out]; exact hk2); omega
          · obtain rfl : k = (i + j) / 2 := by omega
            omega
        clear hc ml h2
        generalize cmpI (ra l ((i + j) / 2)).nd.id id = C at *
        generalize (ra l ((i + j) / 2)).cs.toArray = RC at *
        go_wp2_with (refine wpList_load_room rfl (.tmp 27) rfl _ _ rfl _ LD.out ?_)
        refine CK.out.mono ?_
        rintro e w1 ⟨rfl, hb1⟩
        have hB1 := hid (hB.out.trans (hb1.mono hB.out.size))
        go_wp2
        go_roundw
        case rel => exact ⟨i, (i + j) / 2, by omega, by omega, rfl, by congr 1, h1, N1, hB1⟩
        case measure => simp [intOf]; omega
    · obtain rfl : i = j := by omega
      have AT : Hid (atR l id i) := ⟨by rw [HL.out]; exact hj, h1.out, fun h => h2.out i (Nat.le_refl _) (by rw [HL.out] at h; exact h)⟩
      have E := hid (atR_has HS.out AT.out)
      clear h1 h2
      by_cases hn : i < len
      · obtain ⟨b, off, rfl, hbl, R⟩ := HH.out.rowR (by omega)
        have LD := hid (load_room wr b _ (ra l i) (rangeAt_below (R i (by omega)) hB.out))
        have CK := hid (seek1_any (ra l i) id wr)
        have e1 : decide (i < l.length) = true := by rw [HL.out]; simpa using hn
        rw [e1, Bool.true_and] at E
        have ia : (0 : Int) ≤ (i : Int) := by omega
        have ib : (i : Int) < (len : Int) := by omega
        have CZ : Hid ((cmpI (ra l i).nd.id id == 0) = decide ((ra l i).nd.id = id)) := by
          unfold Hid cmpI
          by_cases g1 : (ra l i).nd.id < id
          · rw [if_pos g1]; simp; omega
          · rw [if_neg g1]
            by_cases g2 : id < (ra l i).nd.id
            · rw [if_pos g2]; simp; omega
            · rw [if_neg g2]; simp; omega
        rw [← CZ.out] at E
        clear R e1 CZ
        generalize cmpI (ra l i).nd.id id = C at *
        generalize (ra l i).cs.toArray = RC at *
        go_wp2_with (refine wpList_load_room rfl (.tmp 43) rfl _ _ rfl _ LD.out ?_)
        refine CK.out.mono ?_
        rintro e w1 ⟨rfl, hb1⟩
        have hB1 := hid (hB.out.trans (hb1.mono hB.out.size))
        go_wp2
        go_ret2
        rw [E.out]
        exact ⟨_, rfl, AT.out, hB1.out⟩
      · have e1 : decide (i < l.length) = false := by rw [HL.out]; simpa using hn
        have EE : Hid (hasR l id = false) := by unfold Hid; rw [E.out, e1]; rfl
        clear E e1
        go_wp2
        go_ret2
        rw [EE.out]
        exact ⟨_, rfl, AT.out, hB.out⟩

set_option maxHeartbeats 1000000 in
theorem seek_any (a : Option Addr) (len cap : Nat) (l : List Rm) (id : Int) (w : World) (h : HoldsR w a len cap l) (hle : len ≤ 64) (hS : RiseR l) :
    Calls Try.prog 43 #[.slice a len cap, .int .i64 id] w fun e w' => ∃ k : Nat, e = .returned (.tuple #[.int .i64 (k : Int), .bool (hasR l id)]) ∧ atR l id k ∧ Below w.heap.size w w' := by
  have HB := hid (bsearchR_any a len cap l id w h hle hS)
  clear h hS
  generalize hasR l id = HR at *
  go_enter Try.func43, Try.ntmps43
  go_wp2_with fail
  refine HB.out.mono ?_
  rintro e w1 ⟨k, rfl, hk, hb⟩
  have AT := hid hk
  have BB := hid hb
  clear hk hb
  go_wp2
  go_ret2
  exact ⟨_, rfl, AT.out, BB.out⟩

end Go.Proofs.Ytikalkigmnipiaa
