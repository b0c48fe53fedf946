/-
  Contracts: the document's Num, Whole, Text; lists of bytes compared.
-/
import Derived.Test.YthkbddnkcljjpaaSD
import Derived.Laws.Cells
namespace Go.Proofs.Ythkbddnkcljjpaa
open Go.RowKit Go.Deep
set_option linter.unusedVariables false

set_option maxHeartbeats 2000000 in
theorem rnum_any (x : Int) (w : World) (h0 : 0 ≤ x) (h1 : x ≤ 18446744073709551615) :
    Calls Try.prog 34 #[.int .u64 x] w fun e w' => ∃ v, e = .returned v ∧ Own w.heap.size w' v (1 + shelf x) (numB x) ∧ Below w.heap.size w w' := by
  by_cases hx : x < 192
  · have t1 : decide (x < 192) = true := by simp; omega
    have E := hid (shelf0' hx)
    have NB : Hid (numB x = [x]) := by unfold Hid numB; rw [if_pos E.out]
    have O := own_one w x h0 (by omega)
    go_enter Try.func34, Try.ntmps34
    go_wp2
    go_ret
    exact ⟨_, rfl, by rw [NB.out, E.out]; exact O, (by repeat (first | exact Below.refl _ _ | assumption | refine Below.alloc ?_ (by simp <;> omega) _ | refine Below.setCell ?_ (by simp <;> omega) _ | refine Below.drew ?_ | refine below_drewN ?_ _))⟩
  · have t1 : decide (x < 192) = false := by simp; omega
    go_enter Try.func34, Try.ntmps34
    go_wp2_with fail
    go_loop [3, 4, 5] (fun t z i => ∃ k : Nat, 1 ≤ k ∧ k ≤ 8 ∧ i = .int .i64 k ∧ t = .int .u64 (beg k) ∧ beg k ≤ x ∧ ∃ c : Int, z = .int .u64 c ∧ 0 ≤ c ∧ c ≤ 18446744073709551615 ∧ Hid (k < 8 → c = cnt k)) (fun _ _ i => 8 - (intOf i).toNat)
    case atStart => exact ⟨1, by omega, by omega, rfl, rfl, by simp [beg]; omega, 256, rfl, by omega, by omega, fun _ => rfl⟩
    case round =>
      obtain ⟨k, hk1, hk, rfl, rfl, hb, c, rfl, c0, c1, hc⟩ := hrel
      have b1 := beg_bd k hk
      obtain ⟨b11, b12⟩ := b1
      by_cases hgo : k < 8 ∧ cnt k ≤ x - beg k
      · obtain ⟨hlt, hge⟩ := hgo
        obtain rfl := hc.out hlt
        have B := hid (beg_succ k hlt)
        have b2 := cnt_bd k hlt
        obtain ⟨b21, b22⟩ := b2
        have P : Hid (k + 1 < 8 → cnt k * 256 = cnt (k + 1)) := fun h => by rw [cnt_pow k (by omega) (by omega), cnt_pow (k + 1) h (by omega), Int.pow_succ]
        generalize hg : beg k = b at *
        have HG := hid hg
        clear hg
        generalize cnt k = c at *
        have t2 : decide (c ≤ x - b) = true := by simp; omega
        by_cases h7 : k + 1 < 8
        · have R : c * 256 ≤ 18446744073709551615 := by
            have := P.out h7
            have := cnt_bd (k + 1) h7
            omega
          have R2 := hid (P.out h7)
          go_wp2
          go_round
          case rel => exact ⟨k + 1, by omega, by omega, by go_num, by rw [B.out], by rw [B.out]; omega, _, rfl, by omega, by omega, fun _ => R2.out⟩
          case measure => simp [intOf]; omega
        · have R : 0 ≤ IntKind.u64.wrap (c * 256) ∧ IntKind.u64.wrap (c * 256) ≤ 18446744073709551615 := by rw [IntKind.wrap_u64]; omega
          have RR := hid R
          clear R
          go_wp2
          go_round
          case rel => exact ⟨k + 1, by omega, by omega, by go_num, by rw [B.out], by rw [B.out]; omega, _, rfl, RR.out.1, RR.out.2, fun h => absurd h (by omega)⟩
          case measure => simp [intOf]; omega
      · have S : shelf x = k := shelf_eq k hk hb (fun h => by rw [beg_succ k h]; omega)
        have tc : k < 8 → decide (c ≤ x - beg k) = false := fun h => by rw [hc.out h]; simp; omega
        have NB : Hid (numB x = (191 + (k : Int)) :: be k (x - beg k)) := by unfold Hid numB; rw [if_neg (by omega), S]
        have SS := hid S
        clear S hgo
        have f1 : 0 ≤ x - beg k := by omega
        generalize hg : beg k = b at *
        have HG := hid hg
        clear hg
        have O : ∀ wr : World, Own wr.heap.size (wr.alloc (.cells #[.int .u8 (191 + (k : Int))] 5)) (.slice (some ⟨wr.heap.size, 0, none⟩) 1 1) 1 [191 + (k : Int)] := fun wr => own_one wr _ (by omega) (by omega)
        have OO := hid (O w)
        clear O
        have B0 : Below w.heap.size w (w.alloc (.cells #[.int .u8 (191 + (k : Int))] 5)) := (by repeat (first | exact Below.refl _ _ | assumption | refine Below.alloc ?_ (by simp <;> omega) _ | refine Below.setCell ?_ (by simp <;> omega) _ | refine Below.drew ?_ | refine below_drewN ?_ _))
        have t8 : Hid (¬ k < 8) ∨ decide (c ≤ x - b) = false := by
          by_cases h : k < 8
          · exact .inr (tc h)
          · exact .inl h
        clear tc
        rcases t8 with t8 | t8
        · have t9 := t8.out
          clear t8
          obtain rfl : k = 8 := by omega
          go_wp2_with fail
          go_loopw [6, 7] (fun v i wr => ∃ j : Nat, j ≤ 8 ∧ i = .int .i64 ((8 : Int) - 1 - j) ∧ Own w.heap.size wr v (1 + j) ((191 + (8 : Int)) :: (be 8 (x - b)).take j) ∧ Below w.heap.size w wr) (fun _ i _ => (intOf i + 1).toNat)
          case atStart => exact ⟨0, by omega, by go_num, by simpa using OO.out, B0⟩
          case round =>
            obtain ⟨j, hj, rfl, hr, hB⟩ := hrel
            by_cases hlt' : j < 8
            · obtain ⟨m, hm⟩ : ∃ m : Nat, m = 8 - 1 - j := ⟨_, rfl⟩
              have e1 : (8 : Int) - 1 - j = m := by omega
              have BT : Hid ((be 8 (x - b)).take (j + 1) = (be 8 (x - b)).take j ++ [(x - b) / 2 ^ (8 * m) % 256]) := by unfold Hid; rw [be_take 8 (x - b) j hlt', pow8, hm]
              have q0 : 0 ≤ (x - b) / 2 ^ (8 * m) % 256 := by omega
              have q1 : (x - b) / 2 ^ (8 * m) % 256 ≤ 255 := by omega
              have hsz := hB.size
              have m7 : m ≤ 7 := by omega
              have HM : Hid (m + j + 1 = 8) := by unfold Hid; omega
              rw [e1]
              clear hm e1
              go_wp2_with (at_builtin; refine push_own _ ((x - b) / 2 ^ (8 * m) % 256) rfl (.tmp 39) (.tmp 47) rfl w.heap.size (1 + j) _ _ rfl hr hsz rfl q0 q1 (by omega) ?_)
              intro v3 w3 h3 b3
              have hB3 := hB.trans b3
              clear hr hB b3
              go_wp2
              go_roundw
              case rel => exact ⟨j + 1, by omega, by have := HM.out; go_num, by rw [BT.out]; exact h3, hB3⟩
              case measure => have := HM.out; simp [intOf]
            · obtain rfl : j = 8 := by omega
              rw [List.take_of_length_le (by rw [be_len]; omega)] at hr
              go_wp2
              go_ret
              exact ⟨_, rfl, by rw [NB.out, SS.out]; exact hr, hB⟩
        · by_cases h8 : k < 8
          · go_wp2_with fail
            go_loopw [6, 7] (fun v i wr => ∃ j : Nat, j ≤ k ∧ i = .int .i64 ((k : Int) - 1 - j) ∧ Own w.heap.size wr v (1 + j) ((191 + (k : Int)) :: (be k (x - b)).take j) ∧ Below w.heap.size w wr) (fun _ i _ => (intOf i + 1).toNat)
            case atStart => exact ⟨0, by omega, by go_num, by simpa using OO.out, B0⟩
            case round =>
              obtain ⟨j, hj, rfl, hr, hB⟩ := hrel
              by_cases hlt' : j < k
              · obtain ⟨m, hm⟩ : ∃ m : Nat, m = k - 1 - j := ⟨_, rfl⟩
                have e1 : (k : Int) - 1 - j = m := by omega
                have BT : Hid ((be k (x - b)).take (j + 1) = (be k (x - b)).take j ++ [(x - b) / 2 ^ (8 * m) % 256]) := by unfold Hid; rw [be_take k (x - b) j hlt', pow8, hm]
                have q0 : 0 ≤ (x - b) / 2 ^ (8 * m) % 256 := by omega
                have q1 : (x - b) / 2 ^ (8 * m) % 256 ≤ 255 := by omega
                have hsz := hB.size
                have m7 : m ≤ 7 := by omega
                have HM : Hid (m + j + 1 = k) := by unfold Hid; omega
                rw [e1]
                clear hm e1
                go_wp2_with (at_builtin; refine push_own _ ((x - b) / 2 ^ (8 * m) % 256) rfl (.tmp 39) (.tmp 47) rfl w.heap.size (1 + j) _ _ rfl hr hsz rfl q0 q1 (by omega) ?_)
                intro v3 w3 h3 b3
                have hB3 := hB.trans b3
                clear hr hB b3
                go_wp2
                go_roundw
                case rel => exact ⟨j + 1, by omega, by have := HM.out; go_num, by rw [BT.out]; exact h3, hB3⟩
                case measure => have := HM.out; simp [intOf]
              · obtain rfl : j = k := by omega
                rw [List.take_of_length_le (by rw [be_len]; omega)] at hr
                go_wp2
                go_ret
                exact ⟨_, rfl, by rw [NB.out, SS.out]; exact hr, hB⟩
          · obtain rfl : k = 8 := by omega
            go_wp2_with fail
            go_loopw [6, 7] (fun v i wr => ∃ j : Nat, j ≤ 8 ∧ i = .int .i64 ((8 : Int) - 1 - j) ∧ Own w.heap.size wr v (1 + j) ((191 + (8 : Int)) :: (be 8 (x - b)).take j) ∧ Below w.heap.size w wr) (fun _ i _ => (intOf i + 1).toNat)
            case atStart => exact ⟨0, by omega, by go_num, by simpa using OO.out, B0⟩
            case round =>
              obtain ⟨j, hj, rfl, hr, hB⟩ := hrel
              by_cases hlt' : j < 8
              · obtain ⟨m, hm⟩ : ∃ m : Nat, m = 8 - 1 - j := ⟨_, rfl⟩
                have e1 : (8 : Int) - 1 - j = m := by omega
                have BT : Hid ((be 8 (x - b)).take (j + 1) = (be 8 (x - b)).take j ++ [(x - b) / 2 ^ (8 * m) % 256]) := by unfold Hid; rw [be_take 8 (x - b) j hlt', pow8, hm]
                have q0 : 0 ≤ (x - b) / 2 ^ (8 * m) % 256 := by omega
                have q1 : (x - b) / 2 ^ (8 * m) % 256 ≤ 255 := by omega
                have hsz := hB.size
                have m7 : m ≤ 7 := by omega
                have HM : Hid (m + j + 1 = 8) := by unfold Hid; omega
                rw [e1]
                clear hm e1
                go_wp2_with (at_builtin; refine push_own _ ((x - b) / 2 ^ (8 * m) % 256) rfl (.tmp 39) (.tmp 47) rfl w.heap.size (1 + j) _ _ rfl hr hsz rfl q0 q1 (by omega) ?_)
                intro v3 w3 h3 b3
                have hB3 := hB.trans b3
                clear hr hB b3
                go_wp2
                go_roundw
                case rel => exact ⟨j + 1, by omega, by have := HM.out; go_num, by rw [BT.out]; exact h3, hB3⟩
                case measure => have := HM.out; simp [intOf]
              · obtain rfl : j = 8 := by omega
                rw [List.take_of_length_le (by rw [be_len]; omega)] at hr
                go_wp2
                go_ret
                exact ⟨_, rfl, by rw [NB.out, SS.out]; exact hr, hB⟩

set_option maxHeartbeats 1000000 in
theorem rwhole_any (x : Int) (w : World) (hx : I64 x) :
    Calls Try.prog 69 #[.int .i64 x] w fun e w' => ∃ v, e = .returned v ∧ Own w.heap.size w' v (1 + shelf (zig x)) (numB (zig x)) ∧ Below w.heap.size w w' := by
  have z := zig_bd hx
  have R := hid (fun w => rnum_any (zig x) w z.1 z.2)
  obtain ⟨h1, h2⟩ := hx
  by_cases hn : x < 0
  · have t1 : decide (x < 0) = true := by simp; omega
    have E : zig x = (-(x + 1)) * 2 + 1 := by unfold zig; rw [if_pos hn]; omega
    rw [E] at R ⊢
    clear E z
    go_enter Try.func69, Try.ntmps69
    go_wp2_with fail
    refine (R.out _).mono ?_
    rintro e w1 ⟨v, rfl, h3, b3⟩
    go_wp2
    go_ret
    exact ⟨v, rfl, h3, b3⟩
  · have t1 : decide (x < 0) = false := by simp; omega
    have E : zig x = x * 2 := by unfold zig; rw [if_neg hn]; omega
    rw [E] at R ⊢
    clear E z
    go_enter Try.func69, Try.ntmps69
    go_wp2_with fail
    refine (R.out _).mono ?_
    rintro e w1 ⟨v, rfl, h3, b3⟩
    go_wp2
    go_ret
    exact ⟨v, rfl, h3, b3⟩

/-- A list of bytes as a string. -/
def bs (l : List Int) : ByteArray := l.foldl (fun r n => r.push (UInt8.ofNat n.toNat)) ByteArray.empty
theorem bs_fold (l : List Int) (r : ByteArray) : (l.foldl (fun r n => r.push (UInt8.ofNat n.toNat)) r).data.toList = r.data.toList ++ l.map (fun n => UInt8.ofNat n.toNat) := by
  induction l generalizing r with
  | nil => simp
  | cons x l ih => rw [List.foldl_cons, ih]; simp [ByteArray.push]
theorem bs_data (l : List Int) : (bs l).data.toList = l.map (fun n => UInt8.ofNat n.toNat) := by
  unfold bs; rw [bs_fold]; rfl
theorem byte_inj {x y : Int} (hx : 0 ≤ x ∧ x ≤ 255) (hy : 0 ≤ y ∧ y ≤ 255) (h : UInt8.ofNat x.toNat = UInt8.ofNat y.toNat) : x = y := by
  have := congrArg UInt8.toNat h
  rw [UInt8.toNat_ofNat', UInt8.toNat_ofNat'] at this
  omega
theorem map_inj' : ∀ (l p : List Int), BB l → BB p → l.map (fun n => UInt8.ofNat n.toNat) = p.map (fun n => UInt8.ofNat n.toNat) → l = p
  | [], [], _, _, _ => rfl
  | [], _ :: _, _, _, h => by simp at h
  | _ :: _, [], _, _, h => by simp at h
  | x :: l, y :: p, hl, hp, h => by
    simp only [List.map_cons, List.cons.injEq] at h
    rw [byte_inj (hl x (by simp)) (hp y (by simp)) h.1, map_inj' l p (fun z hz => hl z (by simp [hz])) (fun z hz => hp z (by simp [hz])) h.2]
theorem bs_inj {l p : List Int} (hl : BB l) (hp : BB p) : (bs l).toList = (bs p).toList ↔ l = p := by
  refine ⟨fun h => map_inj' l p hl hp ?_, fun h => by rw [h]⟩
  rw [ByteArray.toList_eq, ByteArray.toList_eq] at h
  rw [← bs_data, ← bs_data, h]

theorem conv8 {w : World} {a : Option Addr} {len cap : Nat} {l : List Int} (h : HoldsB w a len cap l) :
    (convert 37 9 (.slice a len cap)).run Try.prog w = .ok (.string (bs l)) w := by
  obtain ⟨h1, h2, h3, h4, h5, h6, h7⟩ := h
  rw [run_convert_bytes_string w 37 9 5 a len cap Try.underlying37 Try.underlying5 Try.underlying9]
  by_cases hp : 0 < len
  · obtain ⟨b, off, rfl, hc⟩ := h7 hp
    refine run_bytesToString w _ len cap l ?_
    have e : (l.map (Value.int .u8)).length = len := by simp [h1]
    rw [← e]
    refine run_loadCells_list w _ _ ?_
    intro j u hj
    have hjm : j < len := by have := (List.getElem?_eq_some_iff.1 hj).1; simpa [h1] using this
    rw [Addr.add_lit, hc j hjm]
    rw [List.getElem?_map, List.getElem?_eq_getElem (by omega)] at hj
    rw [List.getElem?_eq_getElem (by omega)]
    simpa using hj
  · obtain rfl : len = 0 := by omega
    obtain rfl : l = [] := List.length_eq_zero_iff.1 h1
    cases a with
    | none =>
      obtain ⟨_, rfl⟩ := h6 rfl
      rfl
    | some ad => exact run_bytesToString w ad 0 cap [] rfl

set_option maxHeartbeats 1000000 in
theorem bytes_any (a : Option Addr) (len cap : Nat) (l : List Int) (a2 : Option Addr) (m cap2 : Nat) (p : List Int) (w : World) (h : HoldsB w a len cap l) (h2 : HoldsB w a2 m cap2 p) :
    Calls Try.prog 14 #[.slice a len cap, .slice a2 m cap2] w fun e w' => e = .returned (.bool (decide (l = p))) ∧ w = w' := by
  have c1 := conv8 h
  have c2 := conv8 h2
  have I := hid (bs_inj h.2.2.2.2.1 h2.2.2.2.2.1)
  clear h h2
  generalize bs l = s at *
  generalize bs p = t at *
  go_enter Try.func14, Try.ntmps14
  go_wp2
  go_ret
  exact ⟨retb (by rw [Bool.eq_iff_iff]; simpa using I.out), rfl⟩
theorem bytes_v (a : Option Addr) (len cap : Nat) (l : List Int) (a2 : Option Addr) (m cap2 : Nat) (p : List Int) (b : Bool) (hb : decide (l = p) = b) (w : World) (h : HoldsB w a len cap l) (h2 : HoldsB w a2 m cap2 p) :
    Calls Try.prog 14 #[.slice a len cap, .slice a2 m cap2] w fun e w' => e = .returned (.bool b) ∧ w = w' := by rw [← hb]; exact bytes_any a len cap l a2 m cap2 p w h h2
/-- Alike. -/
theorem bytes_same (a : Option Addr) (len cap : Nat) (a2 : Option Addr) (m cap2 : Nat) (l : List Int) (w : World) (h : HoldsB w a len cap l) (h2 : HoldsB w a2 m cap2 l) :
    Calls Try.prog 14 #[.slice a len cap, .slice a2 m cap2] w fun e w' => e = .returned (.bool true) ∧ w = w' := bytes_v a len cap l a2 m cap2 l true (by simp) w h h2

end Go.Proofs.Ythkbddnkcljjpaa
