/-
  The document's answer for queues: Sums.
-/
import Derived.Test.YtdbkjcnanffibaaGreatRL
namespace Go.Proofs.YtdbkjcnanffibaaGreat
open Go.RowKit Go.Deep Go.Maps Go.Shelf
set_option linter.unusedVariables false

/-- Uses. -/
def ua (us : List Us) (i : Nat) : Us := us[i]?.getD ⟨0, 0, 0⟩
theorem ua_get {us : List Us} {i : Nat} (h : i < us.length) : us[i]? = some (ua us i) := by unfold ua; rw [List.getElem?_eq_getElem h]; rfl
theorem ua_snoc {us : List Us} {k : Nat} (h : k < us.length) : us.take (k + 1) = us.take k ++ [ua us k] := by rw [List.take_add_one, ua_get h]; rfl
theorem ua_mem {us : List Us} {k : Nat} (h : k < us.length) : ua us k ∈ us := List.mem_of_getElem? (ua_get h)
theorem HoldsE.rowU {w : World} {a : Option Addr} {len cap : Nat} {l : List Us} (h : HoldsU w a len cap l) (hp : 0 < len) : ∃ b off, a = some ⟨b, off, none⟩ ∧ ∀ j, j < len → w.cell? ⟨b, off + j * 3, none⟩ = some (.int .i64 (ua l j).qu) ∧ w.cell? ⟨b, off + j * 3 + 1, none⟩ = some (.int .i64 (ua l j).uc) ∧ w.cell? ⟨b, off + j * 3 + 2, none⟩ = some (.int .i64 (ua l j).um) := by
  obtain ⟨h1, h2, h3, h4, h5⟩ := h
  obtain ⟨b, off, e, hlt, hc⟩ := h5 hp
  refine ⟨b, off, e, fun j hj => ?_⟩
  have hh := hc j _ (ua_get (by omega))
  exact ⟨hh 0 _ rfl, hh 1 _ rfl, hh 2 _ rfl⟩
/-- The error of uses: the first one's. -/
def usesE (l : List Qu) : List Us → Int
  | [] => 0
  | u :: r => if useE l u ≠ 0 then useE l u else usesE l r
theorem usesE_good {l : List Qu} : ∀ {us : List Us}, (∀ u ∈ us, useE l u = 0) → usesE l us = 0 := by
  intro us h
  induction us with
  | nil => rfl
  | cons u r ih => unfold usesE; rw [if_neg (by rw [h u (List.mem_cons_self ..)]; decide)]; exact ih (fun x hx => h x (List.mem_cons_of_mem _ hx))
theorem usesE_bad {l : List Qu} : ∀ {us : List Us} {k : Nat}, k < us.length → (∀ u ∈ us.take k, useE l u = 0) → useE l (ua us k) ≠ 0 → usesE l us = useE l (ua us k) := by
  intro us
  induction us with
  | nil => intro k h; simp at h
  | cons u r ih =>
    intro k hk h hb
    unfold usesE
    cases k with
    | zero =>
      have e : ua (u :: r) 0 = u := rfl
      rw [e] at hb ⊢
      rw [if_pos hb]
    | succ k =>
      rw [if_neg (by rw [h u (by simp)]; decide)]
      exact ih (by simpa using hk) (fun x hx => h x (by simp; right; exact hx)) hb
theorem useE_zero {l : List Qu} {u : Us} (h : useE l u = 0) : hasQ l u.qu = true ∧ leafB l u.qu = true ∧ okp u.uc ∧ okp u.um := by
  unfold useE at h
  split at h
  · cases h
  · rename_i h1
    split at h
    · cases h
    · rename_i h2
      unfold chk at h
      split at h
      · rename_i h3
        refine ⟨?_, ?_, h3⟩
        · cases hh : hasQ l u.qu
          · exact absurd hh h1
          · rfl
        · cases hh : leafB l u.qu
          · exact absurd hh h2
          · rfl
      · cases h
/-- What a queue uses. -/
def vecAt (l : List Qu) (us : List Us) (i : Nat) : Int × Int := (sumU Us.uc l i us, sumU Us.um l i us)
def vecsTo (l : List Qu) (us : List Us) (k : Nat) : List (Int × Int) := (List.range k).map (vecAt l us)
theorem vecsTo_snoc (l : List Qu) (us : List Us) (k : Nat) : vecsTo l us (k + 1) = vecsTo l us k ++ [vecAt l us k] := by unfold vecsTo; rw [List.range_succ, List.map_append]; rfl
theorem vecsTo_len (l : List Qu) (us : List Us) (k : Nat) : (vecsTo l us k).length = k := by unfold vecsTo; simp
def fitsB (l : List Qu) (us : List Us) : Bool := (List.range l.length).all (fun i => okv (vecAt l us i))
theorem fitsB_no {l : List Qu} {us : List Us} {k : Nat} (h : k < l.length) (e : okv (vecAt l us k) = false) : fitsB l us = false := by
  cases hh : fitsB l us
  · rfl
  · unfold fitsB at hh
    rw [List.all_eq_true] at hh
    have := hh k (List.mem_range.2 h)
    rw [e] at this; cases this
theorem fitsB_yes {l : List Qu} {us : List Us} (h : ∀ k, k < l.length → okv (vecAt l us k) = true) : fitsB l us = true := by
  unfold fitsB
  rw [List.all_eq_true]
  intro k hk
  exact h k (List.mem_range.1 hk)
/-- What Sums answers. -/
def sumsE (l : List Qu) (us : List Us) : Int := if chkE l ≠ 0 then chkE l else if usesE l us ≠ 0 then usesE l us else if fitsB l us = false then 2 else 0
def sumsR (l : List Qu) (us : List Us) : List (Int × Int) := if sumsE l us = 0 then vecsTo l us l.length else []
/-- Capped. -/
def cm (s : Int) : Int := if 1099511627777 < s then 1099511627777 else s
theorem cm_le {s : Int} (h : 0 ≤ s) : 0 ≤ cm s ∧ cm s ≤ 1099511627777 := by unfold cm; split <;> omega
theorem cm_add {s x : Int} (hs : 0 ≤ s) (hx : 0 ≤ x) : cm (cm s + x) = cm (s + x) := by unfold cm; (repeat' split) <;> omega
theorem cm_ok {s : Int} (h : 0 ≤ s) : okp (cm s) ↔ okp s := by unfold okp cm; split <;> omega
theorem cm_same {s : Int} (h : okp s) : cm s = s := by unfold okp at h; unfold cm; rw [if_neg (by omega)]
theorem okv_cm {a b : Int} (h1 : 0 ≤ a) (h2 : 0 ≤ b) : okv (cm a, cm b) = okv (a, b) := by
  unfold okv
  simp only [cm_ok h1, cm_ok h2]
def encV (v : Int × Int) : List Value := [.int .i64 v.1, .int .i64 v.2]
theorem encV_len (v : Int × Int) : (encV v).length = 2 := rfl
theorem encV_one (v : Int × Int) : ∀ u ∈ encV v, u.oneCell' = true := by
  intro u hu
  simp [encV] at hu
  rcases hu with rfl | rfl <;> rfl
theorem infoV : (Tryz.prog.info? 33).map (fun i => (i.zero, i.size, i.bytes)) = some (some (.agg #[.int .i64 0, .int .i64 0]), 2, 16) := by kernel_rfl
abbrev OwnV (base : Nat) (w : World) (v : Value) (n : Nat) (l : List (Int × Int)) : Prop := OwnE 33 2 encV base w v n l
abbrev HoldsV (w : World) (a : Option Addr) (len cap : Nat) (l : List (Int × Int)) : Prop := HoldsE 2 encV w a len cap l
theorem push_v {ops : Array Oper} {rest : List Oper} {o : Oper} {a : Act} {Q : Exit → Act → World → Prop} (wr : World) (c m : Int) (hg : o.guard = none) (s y : Operand) (hop : o.op = Op.call { callee := Callee.builtin Builtin.append, args := #[s, y], argTypes := #[52, 52] })
    (base n : Nat) (v : Value) (l : List (Int × Int)) (hs : a.eval s = v) (hown : OwnV base wr v n l) (hb : base ≤ wr.heap.size) (hx : a.eval y = .slice (some ⟨wr.heap.size, 0, none⟩) 1 1) (b1 : n + 1 ≤ 1000000)
    (hK : ∀ v' w', OwnV base w' v' (n + 1) (l ++ [(c, m)]) → Below base wr w' → wr.grownBy w' v.ownBlock → wpList Tryz.prog ops Q rest (a.put o.dst v') w') :
    wpList Tryz.prog ops Q (o :: rest) a (wr.alloc (.cells #[.int .i64 c, .int .i64 m] 33)) :=
  push_ownE 52 33 _ 16 encV_len encV_one Tryz.underlying52 infoV rfl (by decide) wr (c, m) hg s y hop base n v l _ rfl hs hown hb hx (by omega) (by omega) hK

set_option maxRecDepth 100000 in
set_option maxHeartbeats 1000000 in
theorem rsums_list (a : Option Addr) (len cap : Nat) (l : List Qu) (ub : Option Addr) (n uc : Nat) (us : List Us) (w : World) (h : HoldsQ w a len cap l) (hE : chkE l ≠ 0) :
    Calls Tryz.prog 37 #[.slice a len cap, .slice ub n uc] w fun e w' => e = .returned (.tuple #[.slice none 0 0, .int .i64 (chkE l)]) ∧ Below w.heap.size w w' := by
  have HC := hid (rcheckq_any a len cap l w h)
  have t : (chkE l != 0) = true := by simpa using hE
  clear h hE
  generalize chkE l = E at *
  go_enter Tryz.func37, Tryz.ntmps37
  go_wp2_with fail
  refine HC.out.mono ?_
  rintro e w1 ⟨rfl, b1⟩
  go_wp2
  go_ret2
  exact ⟨rfl, b1⟩

/-- The answer of the second half. -/
def halfE (l : List Qu) (us : List Us) : Int := if fitsB l us = false then 2 else 0
def halfR (l : List Qu) (us : List Us) : List (Int × Int) := if fitsB l us = false then [] else vecsTo l us l.length
theorem halfE_no {l : List Qu} {us : List Us} (h : fitsB l us = false) : halfE l us = 2 := by unfold halfE; rw [if_pos h]
theorem halfR_no {l : List Qu} {us : List Us} (h : fitsB l us = false) : halfR l us = [] := by unfold halfR; rw [if_pos h]
theorem halfE_yes {l : List Qu} {us : List Us} (h : fitsB l us = true) : halfE l us = 0 := by unfold halfE; rw [if_neg (by rw [h]; decide)]
theorem halfR_yes {l : List Qu} {us : List Us} (h : fitsB l us = true) : halfR l us = vecsTo l us l.length := by unfold halfR; rw [if_neg (by rw [h]; decide)]

set_option maxRecDepth 100000 in
set_option maxHeartbeats 8000000 in
theorem rsums_uses (b off len cap : Nat) (l : List Qu) (vb vo n uc : Nat) (us : List Us) (w : World) (h : HoldsQ w (some ⟨b, off, none⟩) len cap l) (hu : HoldsU w (some ⟨vb, vo, none⟩) n uc us) (hn : 0 < n) (hE : chkE l = 0) (hA : ∀ u ∈ us, useE l u = 0) :
    Calls Tryz.prog 37 #[.slice (some ⟨b, off, none⟩) len cap, .slice (some ⟨vb, vo, none⟩) n uc] w fun e w' => ∃ v, e = .returned (.tuple #[v, .int .i64 (halfE l us)]) ∧ OwnV w.heap.size w' v (halfR l us).length (halfR l us) ∧ Below w.heap.size w w' := by
  have HC := hid (rcheckq_any _ len cap l w h)
  have HL := hid h.1
  have NL := hid hu.1
  have hcap0 := h.2.1
  have hcm := h.2.2.1
  have ucap := hu.2.1
  have ucm := hu.2.2.1
  have hG := chkE_ok.1 hE
  have hp : 0 < len := by have := hG.2.1.1; rw [HL.out] at this; exact this
  have hle : len ≤ 64 := by rw [← HL.out]; exact hG.1
  have FP := hid hG.2.1
  obtain ⟨b', off', eb, R⟩ := h.row hp
  cases eb
  have HR := hid R
  have HH := hid h
  obtain ⟨b', off', eb, RU⟩ := hu.rowU hn
  cases eb
  have UR := hid RU
  have AG := hid hA
  rw [hE] at HC
  clear hE hG R RU h hu hA
  go_enter Tryz.func37, Tryz.ntmps37
  go_wp2_with fail
  refine HC.out.mono ?_
  rintro e w1 ⟨rfl, b1⟩
  have HB1 := hid b1
  clear b1
  go_wp2_with fail
  go_loopw [22] (fun i wr => ∃ k : Nat, k ≤ n ∧ i = .int .i64 k ∧ Below w.heap.size w wr) (fun i _ => n - (intOf i).toNat)
  case atStart => exact ⟨0, by omega, rfl, HB1.out⟩
  case round =>
    obtain ⟨kk, hkk, rfl, hB⟩ := hrel
    by_cases hltn : kk < n
    · have hlu : kk < us.length := by rw [NL.out]; exact hltn
      obtain ⟨r0, r1, r2⟩ := (UR.out kk hltn)
      replace r0 := keepc hB r0
      replace r1 := keepc hB r1
      replace r2 := keepc hB r2
      obtain ⟨z1, z2, z3, z4⟩ := useE_zero (AG.out _ (ua_mem hlu))
      generalize ua us kk = y at *
      obtain ⟨u1, u2, u3⟩ := y
      simp only at *
      have Z1 := hid z1
      have Z2 := hid z2
      have Z3 : Hid (okv (u2, u3) = true) := decide_eq_true ⟨z3, z4⟩
      clear z1 z2 z3 z4
      go_wp2_with fail
      refine (rhas_any _ len cap l u1 _ (HH.out.below (hB.alloc hB.size _))).mono ?_
      rintro e w2 ⟨rfl, b2⟩
      rw [Z1.out]
      have B2 : Below w.heap.size w w2 := (hB.alloc hB.size (.cells #[.int .i64 u1, .int .i64 u2, .int .i64 u3] 44)).trans (b2.mono (by have := hB.size; simp; omega))
      have c0 := keepc b2 (a := ⟨wr.heap.size, 0, none⟩) (v := .int .i64 u1) (by simp [go_sem])
      have c1 := keepc b2 (a := ⟨wr.heap.size, 1, none⟩) (v := .int .i64 u2) (by simp [go_sem])
      have c2 := keepc b2 (a := ⟨wr.heap.size, 2, none⟩) (v := .int .i64 u3) (by simp [go_sem])
      clear b2 r0 r1 r2
      go_wp2_with fail
      refine (rleaf_any b off len cap l u1 w2 (HH.out.below B2) hp hle).mono ?_
      rintro e w3 ⟨rfl, b3⟩
      rw [Z1.out, Z2.out, Bool.true_and]
      have B3 := B2.trans (b3.mono B2.size)
      have d1 := keepc b3 c1
      have d2 := keepc b3 c2
      clear b3 c0 c1 c2
      go_wp2_with fail
      refine (good_any u2 u3 w3).mono ?_
      rintro e w4 ⟨rfl, b4⟩
      rw [Z3.out]
      have B4 := B3.trans (b4.mono B3.size)
      clear b4 d1 d2
      go_wp2
      go_roundw
      case rel => exact ⟨kk + 1, by omega, by go_num, B4⟩
      case measure => simp [intOf]; omega
    · have hBs := hB
      clear hB hkk
      go_wp2_with fail
      go_loopw [9, 46] (fun m i wr => ∃ k : Nat, k ≤ len ∧ i = .int .i64 k ∧ Hid (OwnV w.heap.size wr m k (vecsTo l us k)) ∧ Hid (∀ j, j < k → okv (vecAt l us j) = true) ∧ Below w.heap.size w wr) (fun _ i _ => len - (intOf i).toNat)
      case atStart => exact ⟨0, by omega, rfl, OwnE.nil _ _ _ _ _, fun j hj => absurd hj (by omega), hBs⟩
      case round =>
        obtain ⟨k, hk, rfl, ho, hgo, hB⟩ := hrel
        by_cases hlt : k < len
        · have hlt' : k < l.length := by rw [HL.out]; exact hlt
          obtain ⟨e0, e1, e2, e3, e4, e5, e6⟩ := (HR.out.below hB).2 k hlt'
          have PX := hid (FP.out.pl hlt')
          generalize hxq : qa l k = x at *
          obtain ⟨x1, x2, x3, x4, x5, x6, x7⟩ := x
          simp only at *
          clear hxq
          rename World => WR
          go_wp2_with fail
          go_loopw [53] (fun i w2 => ∃ k2 : Nat, k2 ≤ n ∧ i = .int .i64 k2 ∧ Hid (Below (WR.alloc (.cells #[.int .i64 x1, .int .i64 x2, .int .i64 x3, .int .i64 x4, .int .i64 x5, .int .i64 x6, .int .i64 x7] 38)).heap.size (WR.alloc (.cells #[.int .i64 x1, .int .i64 x2, .int .i64 x3, .int .i64 x4, .int .i64 x5, .int .i64 x6, .int .i64 x7] 38)) w2) ∧ Hid (w2.cell? ⟨WR.heap.size + 1, 0, none⟩ = some (.int .i64 (cm (sumU Us.uc l k (us.take k2))))) ∧ Hid (w2.cell? ⟨WR.heap.size + 1, 1, none⟩ = some (.int .i64 (cm (sumU Us.um l k (us.take k2))))) ∧ Hid (∀ j, w2.frozen? ⟨WR.heap.size + 1, j, none⟩ = false)) (fun i _ => n - (intOf i).toNat)
          case atStart => exact ⟨0, by omega, rfl, (Below.refl _ (WR.alloc (.cells #[.int .i64 x1, .int .i64 x2, .int .i64 x3, .int .i64 x4, .int .i64 x5, .int .i64 x6, .int .i64 x7] 38))).alloc (Nat.le_refl _) _, by simp [Hid, go_sem]; rfl, by simp [Hid, go_sem]; rfl, fun j => by simp [go_sem]⟩
          case round =>
            obtain ⟨k2, hk2, rfl, hBW, hc0, hc1, hfz⟩ := hrel
            have hsz := hBW.out.size
            simp only [World.size_alloc] at hsz
            by_cases hlt2 : k2 < n
            · have hlu : k2 < us.length := by rw [NL.out]; exact hlt2
              have hBw2 : Below w.heap.size w wr := (hB.alloc hB.size (.cells #[.int .i64 x1, .int .i64 x2, .int .i64 x3, .int .i64 x4, .int .i64 x5, .int .i64 x6, .int .i64 x7] 38)).trans (hBW.out.mono (by have := hB.size; simp; omega))
              obtain ⟨r0, r1, r2⟩ := (UR.out k2 hlt2)
              replace r0 := keepc hBw2 r0
              replace r1 := keepc hBw2 r1
              replace r2 := keepc hBw2 r2
              obtain ⟨z1, z2, z3, z4⟩ := useE_zero (AG.out _ (ua_mem hlu))
              have SN := hid (ua_snoc hlu)
              have SC := hid (sumU_snoc Us.uc l k (us.take k2) (ua us k2))
              have SM := hid (sumU_snoc Us.um l k (us.take k2) (ua us k2))
              have nc := sumU_nonneg Us.uc l k (us.take k2) (fun u hu => (useE_zero (AG.out u (List.mem_of_mem_take hu))).2.2.1.1)
              have nm := sumU_nonneg Us.um l k (us.take k2) (fun u hu => (useE_zero (AG.out u (List.mem_of_mem_take hu))).2.2.2.1)
              have UN := hid (fun W (hW : Below w.heap.size w W) => under_any b off len cap l (ua us k2).qu x1 W (HH.out.below hW) hle FP.out (of_decide_eq_true z1) (by rw [PX.out]; exact hlt'))
              rw [PX.out] at UN
              have UB : Hid (underB l k (ua us k2).qu = decide (k ∈ pth l (pl l (ua us k2).qu))) := rfl
              clear z1 z2
              generalize hy : ua us k2 = y at *
              obtain ⟨u1, u2, u3⟩ := y
              simp only at *
              unfold okp at z3 z4
              clear hy
              obtain ⟨C, hC⟩ : ∃ C, C = sumU Us.uc l k (us.take k2) := ⟨_, rfl⟩
              obtain ⟨M, hM⟩ : ∃ M, M = sumU Us.um l k (us.take k2) := ⟨_, rfl⟩
              rw [← hC] at hc0 SC nc
              rw [← hM] at hc1 SM nm
              obtain ⟨lc1, lc2⟩ := cm_le nc
              obtain ⟨lm1, lm2⟩ := cm_le nm
              have CA := hid (cm_add nc z3.1)
              have MA := hid (cm_add nm z4.1)
              have q0 := keepc (hBW.out.alloc hBW.out.size (.cells #[.int .i64 u1, .int .i64 u2, .int .i64 u3] 44)) (a := ⟨WR.heap.size, 0, none⟩) (v := .int .i64 x1) (by simp [go_sem])
              have hbu := hBW.out.alloc hBW.out.size (.cells #[.int .i64 u1, .int .i64 u2, .int .i64 u3] 44)
              have o0 : (wr.alloc (.cells #[.int .i64 u1, .int .i64 u2, .int .i64 u3] 44)).cell? ⟨WR.heap.size + 1, 0, none⟩ = some (.int .i64 (cm C)) := keepc ((Below.refl _ wr).alloc (Nat.le_refl _) _) hc0.out
              have o1 : (wr.alloc (.cells #[.int .i64 u1, .int .i64 u2, .int .i64 u3] 44)).cell? ⟨WR.heap.size + 1, 1, none⟩ = some (.int .i64 (cm M)) := keepc ((Below.refl _ wr).alloc (Nat.le_refl _) _) hc1.out
              have ltS := cell_lt hc0.out
              simp only at ltS
              have f0 : ∀ j, (wr.alloc (.cells #[.int .i64 u1, .int .i64 u2, .int .i64 u3] 44)).frozen? ⟨WR.heap.size + 1, j, none⟩ = false := fun j => by rw [((Below.refl wr.heap.size wr).alloc (Nat.le_refl _) (.cells #[.int .i64 u1, .int .i64 u2, .int .i64 u3] 44)).frozen (p := ⟨WR.heap.size + 1, j, none⟩) ltS]; exact hfz.out j
              have F0 := hid f0
              clear hC hM f0
              generalize hcc : cm C = cC at *
              generalize hmm : cm M = cM at *
              go_wp2_with fail
              refine (UN.out _ (hBw2.alloc hBw2.size _)).mono ?_
              rintro e w3 ⟨rfl, b3⟩
              have B3 := hid (hbu.trans (b3.mono hbu.size))
              have s0 := keepc b3 o0
              have s1 := keepc b3 o1
              have v1 := keepc b3 (a := ⟨wr.heap.size, 1, none⟩) (v := .int .i64 u2) (by simp [go_sem])
              have v2 := keepc b3 (a := ⟨wr.heap.size, 2, none⟩) (v := .int .i64 u3) (by simp [go_sem])
              have G0 : Hid (∀ j, w3.frozen? ⟨WR.heap.size + 1, j, none⟩ = false) := fun j => by rw [b3.frozen (p := ⟨WR.heap.size + 1, j, none⟩) (by simp; omega)]; exact F0.out j
              have g0 := G0.out 0
              have g1 := G0.out 1
              have hne : WR.heap.size + 1 ≠ wr.heap.size := by omega
              rw [UB.out]
              clear o0 o1 q0 b3 hbu r0 r1 r2 UN F0 hc0 hc1
              by_cases hin : k ∈ pth l (pl l u1)
              · rw [if_pos hin] at SC SM
                have ti : decide (k ∈ pth l (pl l u1)) = true := decide_eq_true hin
                rw [ti]
                clear hin ti UB
                by_cases h1 : 1099511627777 < cC + u2
                · by_cases h2 : 1099511627777 < cM + u3
                  · go_wp2
                    go_roundw
                    case rel =>
                      refine ⟨k2 + 1, by omega, by go_num, (B3.out.setCell (p := ⟨WR.heap.size + 1, 0, none⟩) (by simp) _).setCell (p := ⟨WR.heap.size + 1, 1, none⟩) (by simp) _, ?_, ?_, fun j => by simp; exact G0.out j⟩
                      · rw [SN.out, SC.out, ← CA.out]; unfold cm; rw [if_pos h1]; simp [Hid, go_sem, s0]
                      · rw [SN.out, SM.out, ← MA.out]; unfold cm; rw [if_pos h2]; simp [Hid, go_sem, s1]
                    case measure => simp [intOf]; omega
                  · go_wp2
                    go_roundw
                    case rel =>
                      refine ⟨k2 + 1, by omega, by go_num, (B3.out.setCell (p := ⟨WR.heap.size + 1, 0, none⟩) (by simp) _).setCell (p := ⟨WR.heap.size + 1, 1, none⟩) (by simp) _, ?_, ?_, fun j => by simp; exact G0.out j⟩
                      · rw [SN.out, SC.out, ← CA.out]; unfold cm; rw [if_pos h1]; simp [Hid, go_sem, s0]
                      · rw [SN.out, SM.out, ← MA.out]; unfold cm; rw [if_neg (by omega)]; simp [Hid, go_sem, s1]
                    case measure => simp [intOf]; omega
                · by_cases h2 : 1099511627777 < cM + u3
                  · go_wp2
                    go_roundw
                    case rel =>
                      refine ⟨k2 + 1, by omega, by go_num, (B3.out.setCell (p := ⟨WR.heap.size + 1, 0, none⟩) (by simp) _).setCell (p := ⟨WR.heap.size + 1, 1, none⟩) (by simp) _, ?_, ?_, fun j => by simp; exact G0.out j⟩
                      · rw [SN.out, SC.out, ← CA.out]; unfold cm; rw [if_neg (by omega)]; simp [Hid, go_sem, s0]
                      · rw [SN.out, SM.out, ← MA.out]; unfold cm; rw [if_pos h2]; simp [Hid, go_sem, s1]
                    case measure => simp [intOf]; omega
                  · go_wp2
                    go_roundw
                    case rel =>
                      refine ⟨k2 + 1, by omega, by go_num, (B3.out.setCell (p := ⟨WR.heap.size + 1, 0, none⟩) (by simp) _).setCell (p := ⟨WR.heap.size + 1, 1, none⟩) (by simp) _, ?_, ?_, fun j => by simp; exact G0.out j⟩
                      · rw [SN.out, SC.out, ← CA.out]; unfold cm; rw [if_neg (by omega)]; simp [Hid, go_sem, s0]
                      · rw [SN.out, SM.out, ← MA.out]; unfold cm; rw [if_neg (by omega)]; simp [Hid, go_sem, s1]
                    case measure => simp [intOf]; omega
              · rw [if_neg hin] at SC SM
                have ti : decide (k ∈ pth l (pl l u1)) = false := decide_eq_false hin
                rw [ti]
                clear hin ti UB
                go_wp2
                go_roundw
                case rel =>
                  refine ⟨k2 + 1, by omega, by go_num, B3, ?_, ?_, G0⟩
                  · rw [SN.out, SC.out, Int.add_zero, hcc]; exact s0
                  · rw [SN.out, SM.out, Int.add_zero, hmm]; exact s1
                case measure => simp [intOf]; omega
            · have hkn : k2 = us.length := by rw [NL.out]; omega
              rw [hkn, List.take_length] at hc0 hc1
              have nc := sumU_nonneg Us.uc l k us (fun u hu => (useE_zero (AG.out u hu)).2.2.1.1)
              have nm := sumU_nonneg Us.um l k us (fun u hu => (useE_zero (AG.out u hu)).2.2.2.1)
              have OK := hid (okv_cm nc nm)
              have s0 := hc0.out
              have s1 := hc1.out
              have hBw2 : Below w.heap.size w wr := (hB.alloc hB.size (.cells #[.int .i64 x1, .int .i64 x2, .int .i64 x3, .int .i64 x4, .int .i64 x5, .int .i64 x6, .int .i64 x7] 38)).trans (hBW.out.mono (by have := hB.size; simp; omega))
              have hW2 : Below WR.heap.size WR wr := ((Below.refl _ WR).alloc (Nat.le_refl _) (.cells #[.int .i64 x1, .int .i64 x2, .int .i64 x3, .int .i64 x4, .int .i64 x5, .int .i64 x6, .int .i64 x7] 38)).trans (hBW.out.mono (by simp))
              have ho2 := hid (ho.out.below hW2)
              have VA : Hid (vecAt l us k = (sumU Us.uc l k us, sumU Us.um l k us)) := rfl
              have VS := hid (vecsTo_snoc l us k)
              rw [VA.out] at VS
              clear hkn hc0 hc1 e0 e1 e2 e3 e4 e5 e6
              cases hgd : okv (sumU Us.uc l k us, sumU Us.um l k us)
              · have FN := hid (fitsB_no hlt' (by rw [VA.out]; exact hgd))
                have HG := hid hgd
                clear hgd
                generalize sumU Us.uc l k us = C at *
                generalize sumU Us.um l k us = M at *
                rw [HG.out] at OK
                generalize cm C = cC at *
                generalize cm M = cM at *
                go_wp2_with fail
                refine (good_any cC cM wr).mono ?_
                rintro e w4 ⟨rfl, b4⟩
                rw [OK.out]
                have B4 := hBw2.trans (b4.mono hBw2.size)
                go_wp2
                go_ret2
                refine ⟨.slice none 0 0, ?_, ?_, B4⟩
                · rw [halfE_no FN.out]; rfl
                · rw [halfR_no FN.out]; exact OwnE.nil _ _ _ _ _
              · have HG := hid hgd
                obtain ⟨gc, gm⟩ := okv_true hgd
                have e1' := cm_same gc
                have e2' := cm_same gm
                clear OK
                have OK := hid hgd
                simp only at e1' e2'
                rw [e1'] at s0
                rw [e2'] at s1
                have NG : Hid (∀ j, j < k + 1 → okv (vecAt l us j) = true) := fun j hj => by
                  rcases Nat.lt_or_ge j k with h | h
                  · exact hgo.out j h
                  · have : j = k := by omega
                    rw [this, VA.out]; exact HG.out
                clear hgd gc gm e1' e2' HG
                generalize sumU Us.uc l k us = C at *
                generalize sumU Us.um l k us = M at *
                go_wp2_with fail
                refine (good_any C M wr).mono ?_
                rintro e w4 ⟨rfl, b4⟩
                rw [OK.out]
                have B4 := hBw2.trans (b4.mono hBw2.size)
                have ho4 := hid (ho2.out.below b4)
                have p0 := keepc b4 s0
                have p1 := keepc b4 s1
                clear b4 s0 s1 ho2
                go_wp2_with (at_builtin; refine push_v w4 C M rfl (.tmp 83) (.tmp 85) rfl w.heap.size k u9 (vecsTo l us k) rfl ho4.out B4.size rfl (by omega) ?_)
                intro v5 w5 O5 b5 _
                have HO5 := hid O5
                have B5 := B4.trans b5
                clear O5 b5
                go_wp2
                go_roundw
                case rel => exact ⟨k + 1, by omega, by go_num, by rw [VS.out]; exact HO5, NG, B5⟩
                case measure => simp [intOf]; omega
        · have hkl : k = l.length := by rw [HL.out]; omega
          have FY := hid (fitsB_yes (l := l) (us := us) (fun j hj => hgo.out j (by omega)))
          have hO := ho.out
          rw [hkl] at hO
          have HO := hid hO
          clear hO hkl ho hgo
          go_wp2
          go_ret2
          refine ⟨u9, ?_, ?_, hB⟩
          · rw [halfE_yes FY.out]; rfl
          · rw [halfR_yes FY.out, vecsTo_len]; exact HO.out

end Go.Proofs.YtdbkjcnanffibaaGreat
