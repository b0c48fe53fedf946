/-
  Contracts of place: open.
-/
import Derived.Test.YtikalkigmnipiaaPA
import Derived.Laws.Tables
namespace Go.Proofs.Ytikalkigmnipiaa
open Go.RowKit Go.Deep Go.Maps Go.Shelf
set_option linter.unusedVariables false
set_option linter.unusedSimpArgs false

section
variable {ops : Array Oper} {rest : List Oper} {o : Oper} {a : Act} {w : World} {Q : Exit → Act → World → Prop}
set_option maxRecDepth 100000 in
theorem build_room (n1 n2 n3 n4 n5 c m : Int) (w : World) : (Instr.build 80 #[(0, .agg #[.int .i64 n1, .int .i64 n2, .int .i64 n3, .int .i64 n4, .int .i64 n5]), (2, .agg #[.int .i64 c, .int .i64 m])]).run Try.prog w = .ok (.agg (Rm.cs ⟨⟨n1, n2, n3, n4, n5⟩, fun _ => false, c, m⟩).toArray) w := run_build w _ _ _ (by kernel_rfl)
set_option maxRecDepth 100000 in
theorem lit_room (r : Rm) (w : World) : (Instr.buildSlice 72 1 #[(0, .agg r.cs.toArray)]).run Try.prog w = .ok (.slice (some ⟨w.heap.size, 0, none⟩) 1 1) (w.alloc (.cells r.cs.toArray 80)) := by kernel_rfl
theorem wpList_build_room (hg : o.guard = none) (x y : Operand) (ho : o.op = .build 80 #[(0, x), (2, y)]) (n1 n2 n3 n4 n5 c m : Int) (hx : a.eval x = .agg #[.int .i64 n1, .int .i64 n2, .int .i64 n3, .int .i64 n4, .int .i64 n5]) (hy : a.eval y = .agg #[.int .i64 c, .int .i64 m])
    (h : wpList Try.prog ops Q rest (a.put o.dst (.agg (Rm.cs ⟨⟨n1, n2, n3, n4, n5⟩, fun _ => false, c, m⟩).toArray)) w) : wpList Try.prog ops Q (o :: rest) a w := by
  refine wpList_plain hg fun _ hK => ?_
  unfold Oper.wp execOp
  have e := build_room n1 n2 n3 n4 n5 c m w
  simp only [ho, Sem.run_bind, List.map_toArray, List.map_cons, List.map_nil, hx, hy, e, Result.andThen_ok]
  exact hK _ _ h
theorem wpList_lit_room (hg : o.guard = none) (x : Operand) (ho : o.op = .buildSlice 72 1 #[(0, x)]) (r : Rm) (hx : a.eval x = .agg r.cs.toArray)
    (h : wpList Try.prog ops Q rest (a.put o.dst (.slice (some ⟨w.heap.size, 0, none⟩) 1 1)) (w.alloc (.cells r.cs.toArray 80))) : wpList Try.prog ops Q (o :: rest) a w := by
  refine wpList_plain hg fun _ hK => ?_
  unfold Oper.wp execOp
  have e := lit_room r w
  simp only [ho, Sem.run_bind, List.map_toArray, List.map_cons, List.map_nil, hx, e, Result.andThen_ok]
  exact hK _ _ h
end
theorem retO {b c : Bool} (h : c = b) : Ending.returned (.tuple #[.slice none 0 0, .bool b]) = .returned (.tuple #[.slice none 0 0, .bool c]) := by rw [h]
theorem retW {v : Value} {b : Bool} (h : b = true) : Ending.returned (.tuple #[v, .bool true]) = .returned (.tuple #[v, .bool b]) := by rw [h]
theorem drop_da {l : List Nd} {k : Nat} (h : k < l.length) : l.drop k = da l k :: l.drop (k + 1) := by
  rw [List.drop_eq_getElem_cons h]
  unfold da
  rw [List.getElem?_eq_getElem h]
  rfl
theorem take_da {l : List Nd} {k : Nat} (h : k < l.length) : l.take (k + 1) = l.take k ++ [da l k] := by rw [List.take_add_one, da_get h]; rfl

set_option maxRecDepth 100000 in
set_option maxHeartbeats 4000000 in
theorem open_any (a : Option Addr) (len cap : Nat) (l : List Nd) (w : World) (h : HoldsD w a len cap l) (hm : len ≤ 64) :
    Calls Try.prog 58 #[.slice a len cap] w fun e w' => ∃ v, e = .returned (.tuple #[v, .bool (ndsB (-1) l)]) ∧ ((ndsB (-1) l = false ∧ v = .slice none 0 0) ∨ (ndsB (-1) l = true ∧ OwnR w.heap.size w' v len (l.map rm0))) ∧ Below w.heap.size w w' := by
  have HH := hid h
  have HL := hid h.1
  have hcap := h.2.1
  clear h
  go_enter Try.func58, Try.ntmps58
  go_wp2_with fail
  go_loopw [11, 4, 5] (fun i v x wr => ∃ (k : Nat) (ah : Int), k ≤ len ∧ i = .int .i64 (k : Int) ∧ x = .int .i64 ah ∧ Hid (ndsB (-1) l = ndsB ah (l.drop k)) ∧ Hid (OwnR w.heap.size wr v k ((l.take k).map rm0)) ∧ Hid (Below w.heap.size w wr)) (fun i _ _ _ => len - (intOf i).toNat)
  case atStart => exact ⟨0, -1, by omega, rfl, rfl, rfl, OwnE.nil _ _ _ _ _, Below.refl _ _⟩
  case round =>
    obtain ⟨k, ah, hk, rfl, rfl, hn, ho, hB⟩ := hrel
    by_cases hlt : k < len
    · have hlt' : k < l.length := by rw [HL.out]; exact hlt
      obtain ⟨b, off, rfl, R⟩ := HH.out.rowD (by omega)
      obtain ⟨d1, d2, d3, d4, d5⟩ := R k hlt
      have c1 := keepc hB.out d1
      have c2 := keepc hB.out d2
      have c3 := keepc hB.out d3
      have c4 := keepc hB.out d4
      have c5 := keepc hB.out d5
      have ka : (0 : Int) ≤ (k : Int) := by omega
      have kb : (k : Int) < (len : Int) := by omega
      have NX : Hid (ndsB (-1) l = (ndB ah (da l k) && ndsB (da l k).id (l.drop (k + 1)))) := by unfold Hid; rw [hn.out, drop_da hlt']; rfl
      have ON : Hid ((l.take (k + 1)).map rm0 = (l.take k).map rm0 ++ [rm0 (da l k)]) := by unfold Hid; rw [take_da hlt', List.map_append]; rfl
      obtain ⟨nd, hd⟩ : ∃ x, da l k = x := ⟨_, rfl⟩
      obtain ⟨n1, n2, n3, n4, n5⟩ := nd
      rw [hd] at c1 c2 c3 c4 c5 NX ON
      clear d1 d2 d3 d4 d5 R hd
      have B2 : Hid (Below w.heap.size w ((wr.alloc (.cells #[.int .i64 n1, .int .i64 n2, .int .i64 n3, .int .i64 n4, .int .i64 n5] 41)).alloc (.cells #[.int .i64 n2, .int .i64 n3] 25))) := hid (hB.out.trans (((Below.refl _ wr).alloc (Nat.le_refl _) _).alloc (by simp) _ |>.mono hB.out.size))
      have CK := hid (fun W => check_any n2 n3 W)
      by_cases g1 : n1 ≤ ah
      · have NO : Hid (ndsB (-1) l = false) := by unfold Hid; rw [NX.out]; unfold ndB; simp [g1]
        have t1 : decide (n1 ≤ ah) = true := by simpa using g1
        clear NX hn
        go_wp2_with fail
        go_ret2
        exact ⟨_, retO NO.out, .inl ⟨NO.out, rfl⟩, B2.out⟩
      by_cases g2 : n2 < 1
      · have NO : Hid (ndsB (-1) l = false) := by unfold Hid; rw [NX.out]; unfold ndB; simp [g2]
        have t1 : decide (n1 ≤ ah) = false := by simpa using g1
        have t2 : decide (n2 < 1) = true := by simpa using g2
        clear NX hn
        go_wp2_with fail
        go_ret2
        exact ⟨_, retO NO.out, .inl ⟨NO.out, rfl⟩, B2.out⟩
      by_cases g3 : 64 < n2
      · have NO : Hid (ndsB (-1) l = false) := by unfold Hid; rw [NX.out]; unfold ndB; simp [g3]
        have t1 : decide (n1 ≤ ah) = false := by simpa using g1
        have t2 : decide (n2 < 1) = false := by simpa using g2
        have t3 : decide (64 < n2) = true := by simpa using g3
        clear NX hn
        go_wp2_with fail
        go_ret2
        exact ⟨_, retO NO.out, .inl ⟨NO.out, rfl⟩, B2.out⟩
      by_cases g4 : chk n2 n3 = 0
      case neg =>
        have NO : Hid (ndsB (-1) l = false) := by unfold Hid; rw [NX.out]; unfold ndB; simp [g4]
        have t1 : decide (n1 ≤ ah) = false := by simpa using g1
        have t2 : decide (n2 < 1) = false := by simpa using g2
        have t3 : decide (64 < n2) = false := by simpa using g3
        have t4 : (chk n2 n3 != 0) = true := by simpa using g4
        generalize chk n2 n3 = CE at *
        clear NX hn
        go_wp2_with fail
        refine (CK.out _).mono ?_
        rintro e w3 ⟨rfl, b3⟩
        have B3 := hid (B2.out.trans (b3.mono B2.out.size))
        go_wp2
        go_ret2
        exact ⟨_, retO NO.out, .inl ⟨NO.out, rfl⟩, B3.out⟩
      · have YES : Hid (ndsB (-1) l = ndsB n1 (l.drop (k + 1))) := by unfold Hid; rw [NX.out]; unfold ndB; simp [g1, g2, g3, g4]
        have t1 : decide (n1 ≤ ah) = false := by simpa using g1
        have t2 : decide (n2 < 1) = false := by simpa using g2
        have t3 : decide (64 < n2) = false := by simpa using g3
        rw [g4] at CK
        clear NX hn g1 g2 g3 g4
        have O2 : Hid (OwnR w.heap.size ((wr.alloc (.cells #[.int .i64 n1, .int .i64 n2, .int .i64 n3, .int .i64 n4, .int .i64 n5] 41)).alloc (.cells #[.int .i64 n2, .int .i64 n3] 25)) u4 k ((l.take k).map rm0)) := hid (ho.out.below (((Below.refl _ wr).alloc (Nat.le_refl _) _).alloc (by simp) _))
        have m1 : ((wr.alloc (.cells #[.int .i64 n1, .int .i64 n2, .int .i64 n3, .int .i64 n4, .int .i64 n5] 41)).alloc (.cells #[.int .i64 n2, .int .i64 n3] 25)).cell? ⟨wr.heap.size, 0, none⟩ = some (.int .i64 n1) := by simp [go_sem]
        have m2 : ((wr.alloc (.cells #[.int .i64 n1, .int .i64 n2, .int .i64 n3, .int .i64 n4, .int .i64 n5] 41)).alloc (.cells #[.int .i64 n2, .int .i64 n3] 25)).cell? ⟨wr.heap.size, 1, none⟩ = some (.int .i64 n2) := by simp [go_sem]
        have m3 : ((wr.alloc (.cells #[.int .i64 n1, .int .i64 n2, .int .i64 n3, .int .i64 n4, .int .i64 n5] 41)).alloc (.cells #[.int .i64 n2, .int .i64 n3] 25)).cell? ⟨wr.heap.size, 2, none⟩ = some (.int .i64 n3) := by simp [go_sem]
        have m4 : ((wr.alloc (.cells #[.int .i64 n1, .int .i64 n2, .int .i64 n3, .int .i64 n4, .int .i64 n5] 41)).alloc (.cells #[.int .i64 n2, .int .i64 n3] 25)).cell? ⟨wr.heap.size, 3, none⟩ = some (.int .i64 n4) := by simp [go_sem]
        have m5 : ((wr.alloc (.cells #[.int .i64 n1, .int .i64 n2, .int .i64 n3, .int .i64 n4, .int .i64 n5] 41)).alloc (.cells #[.int .i64 n2, .int .i64 n3] 25)).cell? ⟨wr.heap.size, 4, none⟩ = some (.int .i64 n5) := by simp [go_sem]
        have m6 : ((wr.alloc (.cells #[.int .i64 n1, .int .i64 n2, .int .i64 n3, .int .i64 n4, .int .i64 n5] 41)).alloc (.cells #[.int .i64 n2, .int .i64 n3] 25)).cell? ⟨wr.heap.size + 1, 0, none⟩ = some (.int .i64 n2) := by simp [go_sem]
        have m7 : ((wr.alloc (.cells #[.int .i64 n1, .int .i64 n2, .int .i64 n3, .int .i64 n4, .int .i64 n5] 41)).alloc (.cells #[.int .i64 n2, .int .i64 n3] 25)).cell? ⟨wr.heap.size + 1, 1, none⟩ = some (.int .i64 n3) := by simp [go_sem]
        have M1 := hid m1
        have M2 := hid m2
        have M3 := hid m3
        have M4 := hid m4
        have M5 := hid m5
        have M6 := hid m6
        have M7 := hid m7
        clear m1 m2 m3 m4 m5 m6 m7
        go_wp2_with fail
        refine (CK.out _).mono ?_
        rintro e w3 ⟨rfl, b3⟩
        have B3 := hid (B2.out.trans (b3.mono B2.out.size))
        have O3 := hid (O2.out.below b3)
        have m1 := keepc b3 M1.out
        have m2 := keepc b3 M2.out
        have m3 := keepc b3 M3.out
        have m4 := keepc b3 M4.out
        have m5 := keepc b3 M5.out
        have m6 := keepc b3 M6.out
        have m7 := keepc b3 M7.out
        clear b3 O2 ho CK M1 M2 M3 M4 M5 M6 M7 c1 c2 c3 c4 c5
        go_wp2_with (first | refine wpList_build_room rfl (.tmp 42) (.tmp 43) rfl n1 n2 n3 n4 n5 n2 n3 rfl rfl ?_ | refine wpList_lit_room rfl (.tmp 44) rfl ⟨⟨n1, n2, n3, n4, n5⟩, fun _ => false, n2, n3⟩ rfl ?_ | (at_builtin; refine push_ownE 72 80 _ 120 Rm.cs_len Rm.one Try.underlying72 infoR (by kernel_rfl) (by decide) w3 (rm0 ⟨n1, n2, n3, n4, n5⟩) rfl (.tmp 41) (.tmp 45) rfl w.heap.size k u4 _ _ rfl rfl O3.out B3.out.size rfl (by omega) (by omega) ?_))
        intro v6 w6 o6 b6 g6
        rw [show List.take k (List.map rm0 l) = (l.take k).map rm0 from List.map_take.symm, ← ON.out] at o6
        have O6 := hid o6
        have B6 := hid (B3.out.trans b6)
        clear o6 b6 g6 m1 m2 m3 m4 m5 m6 m7
        go_wp2
        go_roundw
        case rel => exact ⟨k + 1, n1, by omega, by go_num, rfl, YES, O6, B6⟩
        case measure => simp [intOf]; omega
    · have tk : l.take k = l := List.take_of_length_le (by rw [HL.out]; omega)
      have dk : l.drop k = [] := List.drop_eq_nil_of_le (by rw [HL.out]; omega)
      have YES : Hid (ndsB (-1) l = true) := by unfold Hid; rw [hn.out, dk]; rfl
      have kl : k = len := by omega
      rw [tk, kl] at ho
      clear kl
      go_wp2
      go_ret2
      exact ⟨u4, retW YES.out, .inr ⟨YES.out, ho.out⟩, hB.out⟩

end Go.Proofs.Ytikalkigmnipiaa
