/- PlaceFits: for every list of nodes, every list of leases and every need the law answers true, and its arguments read as they did. No further conditions. -/
import Derived.Test.YtikalkigmnipiaaPJ
import Derived.Test.YtikalkigmnipiaaPV
namespace Go.Proofs.Ytikalkigmnipiaa.placeFits
open Go.ChangeShapes Go.WideShapes Go.ChangeAt Go.RowKit Go.Deep Go.Maps Go.Shelf
set_option linter.unusedVariables false
set_option linter.unusedSimpArgs false

theorem fndE_ten {ns : List Nd} {ls : List Lz} {nc nm : Int} (h : fndE ns ls nc nm = 10) : plE ns ls = 0 ∧ fndO ns ls nc nm = none := by
  unfold fndE at h
  split at h
  · rename_i h0
    split at h
    · cases h
    · split at h
      · cases h
      · rename_i h1
        refine ⟨h0, ?_⟩
        cases ho : fndO ns ls nc nm with
        | none => rfl
        | some b => rw [ho] at h1; exact absurd rfl h1
  · unfold plE at h
    split at h
    · cases h
    · split at h <;> cases h
theorem fndE_zero {ns : List Nd} {ls : List Lz} {nc nm : Int} (h : fndE ns ls nc nm = 0) : plE ns ls = 0 ∧ needB nc nm = false ∧ ∃ j, fndO ns ls nc nm = some j := by
  unfold fndE at h
  split at h
  · rename_i h0
    split at h
    · cases h
    · rename_i hb
      split at h
      · rename_i h1
        exact ⟨h0, by simpa using hb, Option.isSome_iff_exists.1 h1⟩
      · cases h
  · rename_i h0
    exact absurd h h0
theorem fnd_bad {ns : List Nd} {ls : List Lz} {nc nm : Int} (h : fndE ns ls nc nm ≠ 0) : fndI ns ls nc nm = 0 ∧ fndL ns ls nc nm = [] := ⟨by unfold fndI; rw [if_neg h], by unfold fndL; rw [if_neg h]⟩
theorem takeC {w : World} {a : Option Addr} {len cap : Nat} {l : List Int} (h : HoldsN w a len cap l) {n : Nat} (hn : n ≤ len) (ha : a ≠ none) : HoldsN w a n cap (l.take n) := by
  obtain ⟨h1, h2, h3, h4, h5⟩ := h
  refine ⟨by rw [List.length_take]; omega, by omega, by omega, fun e => absurd e ha, fun hp => ?_⟩
  obtain ⟨b, off, e, hlt, hc⟩ := h5 (by omega)
  refine ⟨b, off, e, hlt, fun j x hx => hc j x ?_⟩
  rw [List.getElem?_take] at hx
  split at hx
  · exact hx
  · cases hx

set_option maxRecDepth 100000 in
set_option maxHeartbeats 4000000 in
theorem walk_err (a : Option Addr) (len cap : Nat) (ns : List Nd) (qa : Option Addr) (ql qc : Nat) (l : List Le) (nc nm : Int) (w : World) (h : HoldsD w a len cap ns) (hok : ∀ q ∈ ns, q.ok) (hl : HoldsL w qa ql qc l) (hlk : ∀ q ∈ l, q.ok) (hE : fndE ns (l.map Le.z) nc nm ≠ 0) (hE2 : fndE ns (l.map Le.z) nc nm ≠ 10) :
    Calls Try.prog 5 #[.slice a len cap, .slice qa ql qc, .agg #[.int .i64 nc, .int .i64 nm]] w fun e w' => e = .returned (.bool true) ∧ Below w.heap.size w w' := by
  have HH := hid h
  have HL := hid h.1
  have hcap := h.2.1
  have hcm := h.2.2.1
  have HQ := hid hl
  have qcap := hl.1.2.1
  have qcm := hl.1.2.2.1
  have FN := hid (fun W (hW : Below w.heap.size w W) => pfind_any a len cap ns qa ql qc l nc nm W (HH.out.below hW) (HQ.out.below hW))
  have FR := hid (fun W (hW : Below w.heap.size w W) id => pfree_any a len cap ns qa ql qc l id W (HH.out.below hW) (HQ.out.below hW))
  clear h hl hok hlk
  generalize l.map Le.z = ls at *
  have t1 : (fndE ns ls nc nm != 0) = true := by simpa using hE
  have t2 : (fndE ns ls nc nm != 10) = true := by simpa using hE2
  obtain ⟨e1, e2⟩ := fnd_bad hE
  rw [e1, e2] at FN
  clear e1 e2 hE hE2 FR
  generalize fndE ns ls nc nm = E at *
  have BW : Hid (Below w.heap.size w (w.alloc (.cells #[.int .i64 nc, .int .i64 nm] 25))) := (Below.refl _ w).alloc (Nat.le_refl _) _
  have M0 : Hid ((w.alloc (.cells #[.int .i64 nc, .int .i64 nm] 25)).cell? ⟨w.heap.size, 0, none⟩ = some (.int .i64 nc)) := by unfold Hid; simp [go_sem]
  have M1 : Hid ((w.alloc (.cells #[.int .i64 nc, .int .i64 nm] 25)).cell? ⟨w.heap.size, 1, none⟩ = some (.int .i64 nm)) := by unfold Hid; simp [go_sem]
  go_enter Try.func5, Try.ntmps5
  go_wp2_with fail
  refine (awake7_any _).mono ?_
  rintro e w1 ⟨rfl, b1⟩
  have B1 := hid (BW.out.trans (b1.mono BW.out.size))
  have m0 := keepc b1 M0.out
  have m1 := keepc b1 M1.out
  clear b1 M0 M1
  go_wp2_with fail
  refine (FN.out _ B1.out).mono ?_
  rintro e w2 ⟨v2, rfl, o2, b2⟩
  have B2 := hid (B1.out.trans (b2.mono B1.out.size))
  replace m0 := keepc b2 m0
  replace m1 := keepc b2 m1
  clear b2 FN B1
  obtain ⟨ac, rfl, hc⟩ := o2.holds
  clear o2 hc
  go_wp2
  go_ret
  exact ⟨rfl, B2.out⟩

set_option maxRecDepth 100000 in
set_option maxHeartbeats 8000000 in
theorem walk_full (a : Option Addr) (len cap : Nat) (ns : List Nd) (qa : Option Addr) (ql qc : Nat) (l : List Le) (nc nm : Int) (w : World) (h : HoldsD w a len cap ns) (hok : ∀ q ∈ ns, q.ok) (hl : HoldsL w qa ql qc l) (hlk : ∀ q ∈ l, q.ok) (hE : fndE ns (l.map Le.z) nc nm = 10) :
    Calls Try.prog 5 #[.slice a len cap, .slice qa ql qc, .agg #[.int .i64 nc, .int .i64 nm]] w fun e w' => e = .returned (.bool true) ∧ Below w.heap.size w w' := by
  have HH := hid h
  have HL := hid h.1
  have hcap := h.2.1
  have hcm := h.2.2.1
  have HQ := hid hl
  have qcap := hl.1.2.1
  have qcm := hl.1.2.2.1
  have FN := hid (fun W (hW : Below w.heap.size w W) => pfind_any a len cap ns qa ql qc l nc nm W (HH.out.below hW) (HQ.out.below hW))
  have FR := hid (fun W (hW : Below w.heap.size w W) id => pfree_any a len cap ns qa ql qc l id W (HH.out.below hW) (HQ.out.below hW))
  clear h hl hok hlk
  generalize l.map Le.z = ls at *
  obtain ⟨he, ho⟩ := fndE_ten hE
  obtain ⟨h64, hn, hp⟩ := plE_zero he
  obtain ⟨e1, e2⟩ := fnd_bad (ns := ns) (ls := ls) (nc := nc) (nm := nm) (by rw [hE]; decide)
  rw [e1, e2, hE] at FN
  have HE := hid he
  have HO := hid ho
  have HN := hid hn
  clear e1 e2 hE he ho hn hp h64
  have BW : Hid (Below w.heap.size w (w.alloc (.cells #[.int .i64 nc, .int .i64 nm] 25))) := (Below.refl _ w).alloc (Nat.le_refl _) _
  have M0 : Hid ((w.alloc (.cells #[.int .i64 nc, .int .i64 nm] 25)).cell? ⟨w.heap.size, 0, none⟩ = some (.int .i64 nc)) := by unfold Hid; simp [go_sem]
  have M1 : Hid ((w.alloc (.cells #[.int .i64 nc, .int .i64 nm] 25)).cell? ⟨w.heap.size, 1, none⟩ = some (.int .i64 nm)) := by unfold Hid; simp [go_sem]
  go_enter Try.func5, Try.ntmps5
  go_wp2_with fail
  refine (awake7_any _).mono ?_
  rintro e w1 ⟨rfl, b1⟩
  have B1 := hid (BW.out.trans (b1.mono BW.out.size))
  have m0 := keepc b1 M0.out
  have m1 := keepc b1 M1.out
  clear b1 M0 M1
  go_wp2_with fail
  refine (FN.out _ B1.out).mono ?_
  rintro e w2 ⟨v2, rfl, o2, b2⟩
  have B2 := hid (B1.out.trans (b2.mono B1.out.size))
  replace m0 := keepc b2 m0
  replace m1 := keepc b2 m1
  clear b2 FN B1
  obtain ⟨ac, rfl, hc⟩ := o2.holds
  have M0 := hid m0
  have M1 := hid m1
  clear o2 hc m0 m1
  go_wp2_with fail
  go_loopw [46, 10] (fun i b wr => ∃ k : Nat, k ≤ len ∧ i = .int .i64 (k : Int) ∧ b = .int .i64 (-1) ∧ Hid (Below w2.heap.size w2 wr)) (fun i _ _ => len - (intOf i).toNat)
  case atStart => exact ⟨0, by omega, rfl, rfl, Below.refl _ _⟩
  case round =>
    obtain ⟨k, hk, rfl, rfl, hB⟩ := hrel
    by_cases hlt : k < len
    · -- one node
      obtain ⟨db, dof, rfl, R⟩ := HH.out.rowD (by omega)
      obtain ⟨d1, d2, d3, d4, d5⟩ := R k hlt
      have KB := hid (B2.out.trans (hB.out.mono B2.out.size))
      have c1 := keepc KB.out d1
      have c2 := keepc KB.out d2
      have c3 := keepc KB.out d3
      have c4 := keepc KB.out d4
      have c5 := keepc KB.out d5
      have m0 := keepc hB.out M0.out
      have m1 := keepc hB.out M1.out
      have ka : (0 : Int) ≤ (k : Int) := by omega
      have kb : (k : Int) < (len : Int) := by omega
      have hk' : k < ns.length := by rw [HL.out]; exact hlt
      have FE : freeE ns ls (da ns k).id = 0 := by unfold freeE; rw [if_pos HE.out, ndI_at HN.out hk', if_pos hk']
      have FL : freeL ns ls (da ns k).id = frL ns ls k := by unfold freeL; rw [FE, if_pos rfl, ndI_at HN.out hk']
      have FM : freeM ns ls (da ns k).id = frM ns ls k := by unfold freeM; rw [FE, if_pos rfl, ndI_at HN.out hk']
      have FC := hid (fun W hW => FR.out W hW (da ns k).id)
      rw [FE, FL, FM] at FC
      clear d1 d2 d3 d4 d5 R FE FL FM
      obtain ⟨nd, hd⟩ : ∃ x, da ns k = x := ⟨_, rfl⟩
      rw [hd] at c1 c2 c3 c4 c5 FC
      have HD := hid hd
      clear hd
      obtain ⟨x1, x2, x3, x4, x5⟩ := nd
      have BA : Hid (Below w.heap.size w (wr.alloc (.cells #[.int .i64 x1, .int .i64 x2, .int .i64 x3, .int .i64 x4, .int .i64 x5] 41))) := KB.out.alloc KB.out.size _
      have y0 : (wr.alloc (.cells #[.int .i64 x1, .int .i64 x2, .int .i64 x3, .int .i64 x4, .int .i64 x5] 41)).cell? ⟨wr.heap.size, 0, none⟩ = some (.int .i64 x1) := by simp [go_sem]
      have Y0 := hid y0
      have MA : Hid (Below wr.heap.size wr (wr.alloc (.cells #[.int .i64 x1, .int .i64 x2, .int .i64 x3, .int .i64 x4, .int .i64 x5] 41))) := (Below.refl _ wr).alloc (Nat.le_refl _) _
      replace m0 := hid (keepc MA.out m0)
      replace m1 := hid (keepc MA.out m1)
      clear y0
      go_wp2_with fail
      refine (FC.out _ BA.out).mono ?_
      rintro e w4 ⟨v4, rfl, o4, b4⟩
      have y0 := keepc b4 Y0.out
      replace m0 := keepc b4 m0.out
      replace m1 := keepc b4 m1.out
      have B4 := hid (hB.out.trans ((MA.out.trans (b4.mono MA.out.size)).mono hB.out.size))
      have K4 := hid (B2.out.trans (B4.out.mono B2.out.size))
      clear b4 FC BA MA Y0 c1 c2 c3 c4 c5
      obtain ⟨cc, rfl, hc⟩ := o4.holds
      clear o4 hc
      generalize (frL ns ls k).length = N at *
      generalize frM ns ls k = M at *
      by_cases g : x1 = 0
      · have t : (x1 == 0) = true := by simpa using g
        clear g
        go_wp2
        go_roundw
        case rel => exact ⟨k + 1, by omega, by go_num, rfl, B4⟩
        case measure => simp [intOf]; omega
      · have t : (x1 == 0) = false := by simpa using g
        clear g
        go_wp2
        go_roundw
        case rel => exact ⟨k + 1, by omega, by go_num, rfl, B4⟩
        case measure => simp [intOf]; omega
    · have M0' := hid (keepc hB.out M0.out)
      have M1' := hid (keepc hB.out M1.out)
      have B3 := hid (B2.out.trans (hB.out.mono B2.out.size))
      clear M0 M1 B2 hB
      rename World => w3
      go_wp2_with fail
      go_loopw [101] (fun i wr => ∃ k : Nat, k ≤ len ∧ i = .int .i64 (k : Int) ∧ Hid (Below w3.heap.size w3 wr)) (fun i _ => len - (intOf i).toNat)
      case atStart => exact ⟨0, by omega, rfl, Below.refl _ _⟩
      case round =>
        obtain ⟨k, hk, rfl, hB⟩ := hrel
        have M0 := M0'
        have M1 := M1'
        have B2 := B3
        by_cases hlt : k < len
        · -- one node
          obtain ⟨db, dof, rfl, R⟩ := HH.out.rowD (by omega)
          obtain ⟨d1, d2, d3, d4, d5⟩ := R k hlt
          have KB := hid (B2.out.trans (hB.out.mono B2.out.size))
          have c1 := keepc KB.out d1
          have c2 := keepc KB.out d2
          have c3 := keepc KB.out d3
          have c4 := keepc KB.out d4
          have c5 := keepc KB.out d5
          have m0 := keepc hB.out M0.out
          have m1 := keepc hB.out M1.out
          have ka : (0 : Int) ≤ (k : Int) := by omega
          have kb : (k : Int) < (len : Int) := by omega
          have hk' : k < ns.length := by rw [HL.out]; exact hlt
          have FE : freeE ns ls (da ns k).id = 0 := by unfold freeE; rw [if_pos HE.out, ndI_at HN.out hk', if_pos hk']
          have FL : freeL ns ls (da ns k).id = frL ns ls k := by unfold freeL; rw [FE, if_pos rfl, ndI_at HN.out hk']
          have FM : freeM ns ls (da ns k).id = frM ns ls k := by unfold freeM; rw [FE, if_pos rfl, ndI_at HN.out hk']
          have FC := hid (fun W hW => FR.out W hW (da ns k).id)
          rw [FE, FL, FM] at FC
          clear d1 d2 d3 d4 d5 R FE FL FM
          obtain ⟨nd, hd⟩ : ∃ x, da ns k = x := ⟨_, rfl⟩
          have NO := fnd_none HE.out HO.out hk'
          rw [hd] at c1 c2 c3 c4 c5 FC
          have HD := hid hd
          clear hd
          obtain ⟨x1, x2, x3, x4, x5⟩ := nd
          have BA : Hid (Below w.heap.size w (wr.alloc (.cells #[.int .i64 x1, .int .i64 x2, .int .i64 x3, .int .i64 x4, .int .i64 x5] 41))) := KB.out.alloc KB.out.size _
          have y0 : (wr.alloc (.cells #[.int .i64 x1, .int .i64 x2, .int .i64 x3, .int .i64 x4, .int .i64 x5] 41)).cell? ⟨wr.heap.size, 0, none⟩ = some (.int .i64 x1) := by simp [go_sem]
          have Y0 := hid y0
          have MA : Hid (Below wr.heap.size wr (wr.alloc (.cells #[.int .i64 x1, .int .i64 x2, .int .i64 x3, .int .i64 x4, .int .i64 x5] 41))) := (Below.refl _ wr).alloc (Nat.le_refl _) _
          replace m0 := hid (keepc MA.out m0)
          replace m1 := hid (keepc MA.out m1)
          clear y0
          go_wp2_with fail
          refine (FC.out _ BA.out).mono ?_
          rintro e w4 ⟨v4, rfl, o4, b4⟩
          have y0 := keepc b4 Y0.out
          replace m0 := keepc b4 m0.out
          replace m1 := keepc b4 m1.out
          have B4 := hid (hB.out.trans ((MA.out.trans (b4.mono MA.out.size)).mono hB.out.size))
          have K4 := hid (B2.out.trans (B4.out.mono B2.out.size))
          clear b4 FC BA MA Y0 c1 c2 c3 c4 c5
          obtain ⟨cc, rfl, hc⟩ := o4.holds
          clear o4 hc
          generalize (frL ns ls k).length = N at *
          generalize frM ns ls k = M at *
          by_cases g : (N : Int) < nc
          · have t : decide ((N : Int) < nc) = true := by simpa using g
            clear g NO
            go_wp2
            go_roundw
            case rel => exact ⟨k + 1, by omega, by go_num, B4⟩
            case measure => simp [intOf]; omega
          · have t : decide ((N : Int) < nc) = false := by simpa using g
            have t2 : decide (M < nm) = true := by simp; omega
            clear g NO
            go_wp2
            go_roundw
            case rel => exact ⟨k + 1, by omega, by go_num, B4⟩
            case measure => simp [intOf]; omega
        · have B4 := hid (B3.out.trans (hB.out.mono B3.out.size))
          go_wp2
          go_ret
          exact ⟨rfl, B4.out⟩

set_option maxRecDepth 100000 in
set_option maxHeartbeats 16000000 in
theorem walk_ok (a : Option Addr) (len cap : Nat) (ns : List Nd) (qa : Option Addr) (ql qc : Nat) (l : List Le) (nc nm : Int) (w : World) (h : HoldsD w a len cap ns) (hok : ∀ q ∈ ns, q.ok) (hl : HoldsL w qa ql qc l) (hlk : ∀ q ∈ l, q.ok) (hE : fndE ns (l.map Le.z) nc nm = 0) :
    Calls Try.prog 5 #[.slice a len cap, .slice qa ql qc, .agg #[.int .i64 nc, .int .i64 nm]] w fun e w' => e = .returned (.bool true) ∧ Below w.heap.size w w' := by
  have HH := hid h
  have HL := hid h.1
  have hcap := h.2.1
  have hcm := h.2.2.1
  have HQ := hid hl
  have qcap := hl.1.2.1
  have qcm := hl.1.2.2.1
  have FN := hid (fun W (hW : Below w.heap.size w W) => pfind_any a len cap ns qa ql qc l nc nm W (HH.out.below hW) (HQ.out.below hW))
  have FR := hid (fun W (hW : Below w.heap.size w W) id => pfree_any a len cap ns qa ql qc l id W (HH.out.below hW) (HQ.out.below hW))
  clear h hl hok hlk
  generalize l.map Le.z = ls at *
  obtain ⟨he, hnb, j, ho⟩ := fndE_zero hE
  obtain ⟨h64, hn, hp⟩ := plE_zero he
  obtain ⟨hj, hfc, hfm⟩ := fnd_fit he ho
  have e1 : fndI ns ls nc nm = (da ns j).id := by unfold fndI; rw [hE, if_pos rfl, ho]; rfl
  have e2 : fndL ns ls nc nm = (frL ns ls j).take nc.toNat := by unfold fndL; rw [hE, if_pos rfl, ho]; rfl
  have hnc : 1 ≤ nc := by
    unfold needB at hnb
    simp at hnb
    omega
  obtain ⟨cn, rfl⟩ : ∃ c : Nat, nc = c := ⟨nc.toNat, by omega⟩
  rw [Int.toNat_natCast] at e2
  have e3 : ((frL ns ls j).take cn).length = cn := by rw [List.length_take]; omega
  rw [e1, e2, e3, hE] at FN
  have HE := hid he
  have HO := hid ho
  have HN := hid hn
  have HJ := hid hj
  have hcn1 : 1 ≤ cn := by omega
  have hcn2 : cn ≤ (frL ns ls j).length := by omega
  have HFM := hid hfm
  have HCN2 := hid hcn2
  have hj' : j < len := by rw [← HL.out]; exact hj
  clear e1 e2 e3 hE he ho hn hp h64 hnb hfc hfm hcn2 hnc hj
  obtain ⟨ID, hID⟩ : ∃ x, (da ns j).id = x := ⟨_, rfl⟩
  rw [hID] at FN
  have HID := hid hID
  clear hID
  obtain ⟨BL, hBL⟩ : ∃ x, (frL ns ls j).length = x := ⟨_, rfl⟩
  have HBL := hid hBL
  clear hBL
  have BW : Hid (Below w.heap.size w (w.alloc (.cells #[.int .i64 (cn : Int), .int .i64 nm] 25))) := (Below.refl _ w).alloc (Nat.le_refl _) _
  have M0 : Hid ((w.alloc (.cells #[.int .i64 (cn : Int), .int .i64 nm] 25)).cell? ⟨w.heap.size, 0, none⟩ = some (.int .i64 (cn : Int))) := by unfold Hid; simp [go_sem]
  have M1 : Hid ((w.alloc (.cells #[.int .i64 (cn : Int), .int .i64 nm] 25)).cell? ⟨w.heap.size, 1, none⟩ = some (.int .i64 nm)) := by unfold Hid; simp [go_sem]
  go_enter Try.func5, Try.ntmps5
  go_wp2_with fail
  refine (awake7_any _).mono ?_
  rintro e w1 ⟨rfl, b1⟩
  have B1 := hid (BW.out.trans (b1.mono BW.out.size))
  have m0 := keepc b1 M0.out
  have m1 := keepc b1 M1.out
  clear b1 M0 M1
  go_wp2_with fail
  refine (FN.out _ B1.out).mono ?_
  rintro e w2 ⟨v2, rfl, o2, b2⟩
  have B2 := hid (B1.out.trans (b2.mono B1.out.size))
  replace m0 := keepc b2 m0
  replace m1 := keepc b2 m1
  clear b2 FN B1
  obtain ⟨ac, rfl, hc⟩ := o2.holds
  have HC := hid hc
  have M0 := hid m0
  have M1 := hid m1
  clear o2 hc m0 m1
  go_wp2_with fail
  go_loopw [46, 10] (fun i b wr => ∃ k : Nat, k ≤ len ∧ i = .int .i64 (k : Int) ∧ Hid (b = .int .i64 (if j < k then (BL : Int) else -1)) ∧ Hid (Below w2.heap.size w2 wr)) (fun i _ _ => len - (intOf i).toNat)
  case atStart => exact ⟨0, by omega, rfl, by unfold Hid; rw [if_neg (by omega)], Below.refl _ _⟩
  case round =>
    obtain ⟨k, hk, rfl, hb, hB⟩ := hrel
    by_cases hlt : k < len
    · -- one node
      obtain ⟨db, dof, rfl, R⟩ := HH.out.rowD (by omega)
      obtain ⟨d1, d2, d3, d4, d5⟩ := R k hlt
      have KB := hid (B2.out.trans (hB.out.mono B2.out.size))
      have c1 := keepc KB.out d1
      have c2 := keepc KB.out d2
      have c3 := keepc KB.out d3
      have c4 := keepc KB.out d4
      have c5 := keepc KB.out d5
      have m0 := keepc hB.out M0.out
      have m1 := keepc hB.out M1.out
      have ka : (0 : Int) ≤ (k : Int) := by omega
      have kb : (k : Int) < (len : Int) := by omega
      have hk' : k < ns.length := by rw [HL.out]; exact hlt
      have FE : freeE ns ls (da ns k).id = 0 := by unfold freeE; rw [if_pos HE.out, ndI_at HN.out hk', if_pos hk']
      have FL : freeL ns ls (da ns k).id = frL ns ls k := by unfold freeL; rw [FE, if_pos rfl, ndI_at HN.out hk']
      have FM : freeM ns ls (da ns k).id = frM ns ls k := by unfold freeM; rw [FE, if_pos rfl, ndI_at HN.out hk']
      have FC := hid (fun W hW => FR.out W hW (da ns k).id)
      rw [FE, FL, FM] at FC
      clear d1 d2 d3 d4 d5 R FE FL FM
      obtain ⟨nd, hd⟩ : ∃ x, da ns k = x := ⟨_, rfl⟩
      by_cases hkj : k = j
      · subst hkj
        have HX1 := hid HID.out
        have NB : Hid (Value.int .i64 (BL : Int) = .int .i64 (if k < k + 1 then (BL : Int) else -1)) := by unfold Hid; rw [if_pos (by omega)]
        have HCN3 := HCN2.out
        have HF3 := HFM.out
        rw [hd] at HX1
        rw [hd] at c1 c2 c3 c4 c5 FC
        have HD := hid hd
        clear hd
        obtain ⟨x1, x2, x3, x4, x5⟩ := nd
        obtain rfl : x1 = ID := HX1.out
        clear HX1 hb
        have BA : Hid (Below w.heap.size w (wr.alloc (.cells #[.int .i64 x1, .int .i64 x2, .int .i64 x3, .int .i64 x4, .int .i64 x5] 41))) := KB.out.alloc KB.out.size _
        have y0 : (wr.alloc (.cells #[.int .i64 x1, .int .i64 x2, .int .i64 x3, .int .i64 x4, .int .i64 x5] 41)).cell? ⟨wr.heap.size, 0, none⟩ = some (.int .i64 x1) := by simp [go_sem]
        have Y0 := hid y0
        have MA : Hid (Below wr.heap.size wr (wr.alloc (.cells #[.int .i64 x1, .int .i64 x2, .int .i64 x3, .int .i64 x4, .int .i64 x5] 41))) := (Below.refl _ wr).alloc (Nat.le_refl _) _
        replace m0 := hid (keepc MA.out m0)
        replace m1 := hid (keepc MA.out m1)
        clear y0
        go_wp2_with fail
        refine (FC.out _ BA.out).mono ?_
        rintro e w4 ⟨v4, rfl, o4, b4⟩
        have y0 := keepc b4 Y0.out
        replace m0 := keepc b4 m0.out
        replace m1 := keepc b4 m1.out
        have B4 := hid (hB.out.trans ((MA.out.trans (b4.mono MA.out.size)).mono hB.out.size))
        have K4 := hid (B2.out.trans (B4.out.mono B2.out.size))
        clear b4 FC BA MA Y0 c1 c2 c3 c4 c5
        have FLL : (frL ns ls k).length = BL := HBL.out
        rcases o4 with ⟨rfl, hz, _⟩ | ⟨g, rfl, hg1, hg2, hg3, _⟩
        · omega
        rw [FLL] at hg3 HCN3 ⊢
        have HC4 := hid (HC.out.below B4.out)
        have IT := hid (ints_any ac (some ⟨g, 0, none⟩) cn cn BL _ w4 HC4.out (takeC hg3 HCN3 (by simp)) (by have := hg3.2.2.1; have := freeT_le (rmA ls (da ns k)).tk (da ns k).co.toNat; have hN := ((ndsB_iff.1 HN.out).1 k HJ.out).1; have hh : (frL ns ls k).length ≤ (da ns k).co.toNat := this; omega))
        clear hg1 hg2 hg3 HC4 FLL
        generalize frM ns ls k = M at *
        have t0 : ((cn : Int) != (cn : Int)) = false := by simp
        have t1 : decide ((BL : Int) < (cn : Int)) = false := by simp; omega
        have t1' : decide (BL < cn) = false := by simp; omega
        have t2 : decide (M < nm) = false := by simp; omega
        have s1 : (0 : Int) ≤ (cn : Int) := by omega
        have s2 : (cn : Int) ≤ (BL : Int) := by omega
        go_wp2_with fail
        refine IT.out.mono ?_
        rintro e w5 ⟨rfl, b5⟩
        have B5 := hid (B4.out.trans (b5.mono B4.out.size))
        clear b5
        go_wp2
        go_roundw
        case rel => exact ⟨k + 1, by omega, by go_num, NB, B5⟩
        case measure => simp [intOf]; omega
      · have hne : ¬ (da ns k).id = ID := by
          intro e
          have h1 := ndI_at HN.out hk'
          have h2 := ndI_at HN.out HJ.out
          rw [e, ← HID.out, h2] at h1
          exact hkj h1.symm
        have NB : Hid (u10 = .int .i64 (if j < k + 1 then (BL : Int) else -1)) := by
          unfold Hid; rw [hb.out]
          by_cases h : j < k
          · rw [if_pos h, if_pos (by omega)]
          · rw [if_neg h, if_neg (by omega)]
        rw [hd] at hne
        rw [hd] at c1 c2 c3 c4 c5 FC
        have HD := hid hd
        clear hd
        obtain ⟨x1, x2, x3, x4, x5⟩ := nd
        have t : (x1 == ID) = false := by simpa using hne
        clear hne hb
        have BA : Hid (Below w.heap.size w (wr.alloc (.cells #[.int .i64 x1, .int .i64 x2, .int .i64 x3, .int .i64 x4, .int .i64 x5] 41))) := KB.out.alloc KB.out.size _
        have y0 : (wr.alloc (.cells #[.int .i64 x1, .int .i64 x2, .int .i64 x3, .int .i64 x4, .int .i64 x5] 41)).cell? ⟨wr.heap.size, 0, none⟩ = some (.int .i64 x1) := by simp [go_sem]
        have Y0 := hid y0
        have MA : Hid (Below wr.heap.size wr (wr.alloc (.cells #[.int .i64 x1, .int .i64 x2, .int .i64 x3, .int .i64 x4, .int .i64 x5] 41))) := (Below.refl _ wr).alloc (Nat.le_refl _) _
        replace m0 := hid (keepc MA.out m0)
        replace m1 := hid (keepc MA.out m1)
        clear y0
        go_wp2_with fail
        refine (FC.out _ BA.out).mono ?_
        rintro e w4 ⟨v4, rfl, o4, b4⟩
        have y0 := keepc b4 Y0.out
        replace m0 := keepc b4 m0.out
        replace m1 := keepc b4 m1.out
        have B4 := hid (hB.out.trans ((MA.out.trans (b4.mono MA.out.size)).mono hB.out.size))
        have K4 := hid (B2.out.trans (B4.out.mono B2.out.size))
        clear b4 FC BA MA Y0 c1 c2 c3 c4 c5
        obtain ⟨cc, rfl, hc⟩ := o4.holds
        clear o4 hc
        generalize (frL ns ls k).length = N at *
        generalize frM ns ls k = M at *
        go_wp2
        go_roundw
        case rel => exact ⟨k + 1, by omega, by go_num, NB, B4⟩
        case measure => simp [intOf]; omega
    · have hbb := hb.out
      rw [if_pos (by omega)] at hbb
      subst hbb
      have M0' := hid (keepc hB.out M0.out)
      have M1' := hid (keepc hB.out M1.out)
      have B3 := hid (B2.out.trans (hB.out.mono B2.out.size))
      clear M0 M1 B2 hB hb HC
      rename World => w3
      go_wp2_with fail
      go_loopw [101] (fun i wr => ∃ k : Nat, k ≤ len ∧ i = .int .i64 (k : Int) ∧ Hid (Below w3.heap.size w3 wr)) (fun i _ => len - (intOf i).toNat)
      case atStart => exact ⟨0, by omega, rfl, Below.refl _ _⟩
      case round =>
        obtain ⟨k, hk, rfl, hB⟩ := hrel
        have M0 := M0'
        have M1 := M1'
        have B2 := B3
        by_cases hlt : k < len
        · -- one node
          obtain ⟨db, dof, rfl, R⟩ := HH.out.rowD (by omega)
          obtain ⟨d1, d2, d3, d4, d5⟩ := R k hlt
          have KB := hid (B2.out.trans (hB.out.mono B2.out.size))
          have c1 := keepc KB.out d1
          have c2 := keepc KB.out d2
          have c3 := keepc KB.out d3
          have c4 := keepc KB.out d4
          have c5 := keepc KB.out d5
          have m0 := keepc hB.out M0.out
          have m1 := keepc hB.out M1.out
          have ka : (0 : Int) ≤ (k : Int) := by omega
          have kb : (k : Int) < (len : Int) := by omega
          have hk' : k < ns.length := by rw [HL.out]; exact hlt
          have FE : freeE ns ls (da ns k).id = 0 := by unfold freeE; rw [if_pos HE.out, ndI_at HN.out hk', if_pos hk']
          have FL : freeL ns ls (da ns k).id = frL ns ls k := by unfold freeL; rw [FE, if_pos rfl, ndI_at HN.out hk']
          have FM : freeM ns ls (da ns k).id = frM ns ls k := by unfold freeM; rw [FE, if_pos rfl, ndI_at HN.out hk']
          have FC := hid (fun W hW => FR.out W hW (da ns k).id)
          rw [FE, FL, FM] at FC
          clear d1 d2 d3 d4 d5 R FE FL FM
          obtain ⟨nd, hd⟩ : ∃ x, da ns k = x := ⟨_, rfl⟩
          have BST := fnd_best HE.out HO.out hk'
          rw [HBL.out, HID.out, hd] at BST
          rw [hd] at c1 c2 c3 c4 c5 FC
          have HD := hid hd
          clear hd
          obtain ⟨x1, x2, x3, x4, x5⟩ := nd
          have BA : Hid (Below w.heap.size w (wr.alloc (.cells #[.int .i64 x1, .int .i64 x2, .int .i64 x3, .int .i64 x4, .int .i64 x5] 41))) := KB.out.alloc KB.out.size _
          have y0 : (wr.alloc (.cells #[.int .i64 x1, .int .i64 x2, .int .i64 x3, .int .i64 x4, .int .i64 x5] 41)).cell? ⟨wr.heap.size, 0, none⟩ = some (.int .i64 x1) := by simp [go_sem]
          have Y0 := hid y0
          have MA : Hid (Below wr.heap.size wr (wr.alloc (.cells #[.int .i64 x1, .int .i64 x2, .int .i64 x3, .int .i64 x4, .int .i64 x5] 41))) := (Below.refl _ wr).alloc (Nat.le_refl _) _
          replace m0 := hid (keepc MA.out m0)
          replace m1 := hid (keepc MA.out m1)
          clear y0
          go_wp2_with fail
          refine (FC.out _ BA.out).mono ?_
          rintro e w4 ⟨v4, rfl, o4, b4⟩
          have y0 := keepc b4 Y0.out
          replace m0 := keepc b4 m0.out
          replace m1 := keepc b4 m1.out
          have B4 := hid (hB.out.trans ((MA.out.trans (b4.mono MA.out.size)).mono hB.out.size))
          have K4 := hid (B2.out.trans (B4.out.mono B2.out.size))
          clear b4 FC BA MA Y0 c1 c2 c3 c4 c5
          obtain ⟨cc, rfl, hc⟩ := o4.holds
          clear o4 hc
          generalize (frL ns ls k).length = N at *
          generalize frM ns ls k = M at *
          by_cases g : (N : Int) < (cn : Int)
          · have t : decide (N < cn) = true := by simp; omega
            clear g BST
            go_wp2
            go_roundw
            case rel => exact ⟨k + 1, by omega, by go_num, B4⟩
            case measure => simp [intOf]; omega
          · have t : decide (N < cn) = false := by simp; omega
            by_cases g2 : M < nm
            · have t2 : decide (M < nm) = true := by simpa using g2
              clear g g2 BST
              go_wp2
              go_roundw
              case rel => exact ⟨k + 1, by omega, by go_num, B4⟩
              case measure => simp [intOf]; omega
            · have t2 : decide (M < nm) = false := by simpa using g2
              have BS := BST (by omega) (by omega)
              have t3 : decide (N < BL) = false := by simp; omega
              by_cases g3 : N = BL
              · have t4 : ((N : Int) == (BL : Int)) = true := by simp; omega
                have t4' : (N == BL) = true := by simp; omega
                have t4'' : decide (N = BL) = true := by simp; omega
                have t5 : decide (x1 < ID) = false := by
                  simp
                  rcases BS with h | ⟨_, h⟩
                  · omega
                  · exact h
                clear g g2 BST BS g3
                go_wp2
                go_roundw
                case rel => exact ⟨k + 1, by omega, by go_num, B4⟩
                case measure => simp [intOf]; omega
              · have t4 : ((N : Int) == (BL : Int)) = false := by simp; omega
                have t4' : (N == BL) = false := by simp; omega
                have t4'' : decide (N = BL) = false := by simp; omega
                clear g g2 BST BS g3
                go_wp2
                go_roundw
                case rel => exact ⟨k + 1, by omega, by go_num, B4⟩
                case measure => simp [intOf]; omega
        · have B4 := hid (B3.out.trans (hB.out.mono B3.out.size))
          have t5 : decide ((0 : Int) ≤ (BL : Int)) = true := by simp
          go_wp2
          go_ret
          exact ⟨rfl, B4.out⟩

theorem walk (a : Option Addr) (len cap : Nat) (ns : List Nd) (qa : Option Addr) (ql qc : Nat) (l : List Le) (nc nm : Int) (w : World) (h : HoldsD w a len cap ns) (hok : ∀ q ∈ ns, q.ok) (hl : HoldsL w qa ql qc l) (hlk : ∀ q ∈ l, q.ok) (i0 : I64 nc) (i1 : I64 nm) :
    Calls Try.prog 5 #[.slice a len cap, .slice qa ql qc, .agg #[.int .i64 nc, .int .i64 nm]] w fun e w' => e = .returned (.bool true) ∧ Below w.heap.size w w' := by
  by_cases h1 : fndE ns (l.map Le.z) nc nm = 0
  · exact walk_ok a len cap ns qa ql qc l nc nm w h hok hl hlk h1
  · by_cases h2 : fndE ns (l.map Le.z) nc nm = 10
    · exact walk_full a len cap ns qa ql qc l nc nm w h hok hl hlk h2
    · exact walk_err a len cap ns qa ql qc l nc nm w h hok hl hlk h1 h2

theorem own : ownKnob Try.prog.godebug = none := by kernel_rfl
theorem laidOut : laidOutB Try.prog = true := by kernel_rfl

set_option maxRecDepth 100000 in
theorem lifted (os : Os) (started : os.Started) (H : Type) (enc : TypeId × Value → H) :
    ReturnsInHanded {} Try.checked os 5 .any (Rows.placeFitsSpec.pre6 enc Try.prog Try.f5 Rows.placeFitsRow.domain false) (Rows.placeFitsSpec.post enc Try.prog Try.f5 false true false false) := by
  refine returnsInHanded_of_change (C := Try.checked) own started (by kernel_rfl) Try.func5
    (ChangeSpec.witness6 (enc := enc) (C := Try.checked) false ⟨#[], #[.slice none 0 0, .slice none 0 0, .agg #[.int .i64 0, .int .i64 0]], []⟩ 8 (by kernel_rfl) (by kernel_rfl) (by kernel_rfl) (by kernel_rfl)) ?_
  intro W base args ds gs before hval0 hW hcnd _
  have hval : ∀ (j : Nat) t v, Try.f5.params[j]? = some t → args[j]? = some v → Value.okWide Try.prog W .any base t v := hval0
  have hW' := hW
  obtain ⟨p, q, hA0, hV, rfl, hfz, hnd⟩ := hW
  have hA : DataW.TrodAll enc Try.prog W 0 (fun _ => true) true Try.f5.params.toList args.toList ds p := hA0
  rw [Try.params5] at hA hval
  obtain ⟨v0, vs0, d0, ds0, p0, q0, hargs, rfl, rfl, h0, r0⟩ := trodAll_cons hA
  obtain ⟨v1, vs1, d1, ds1, p1, q1, rfl, rfl, rfl, h1, r1⟩ := trodAll_cons r0
  obtain ⟨v2, vs2, d2, ds2, p2, q2, rfl, rfl, rfl, h2, r2⟩ := trodAll_cons r1
  obtain ⟨rfl, rfl, rfl⟩ := trodAll_nil r2
  obtain rfl : args = #[v0, v1, v2] := by cases args; simp_all
  obtain ⟨rfl, rfl⟩ := trodVars_none hV
  have lt0 : ∀ x ∈ p0, x.block < W.heap.size := by obtain ⟨m, hm⟩ := h0; exact DataW.trod_lt m _ _ _ hm
  have lt1 : ∀ x ∈ p1, x.block < W.heap.size := by obtain ⟨m, hm⟩ := h1; exact DataW.trod_lt m _ _ _ hm
  have lt2 : ∀ x ∈ p2, x.block < W.heap.size := by obtain ⟨m, hm⟩ := h2; exact DataW.trod_lt m _ _ _ hm
  obtain ⟨a0, len0, cap0, rfl⟩ := okWide_slice Try.underlying22 (hval 0 22 v0 rfl rfl)
  obtain ⟨z0, w0, k0, dr0⟩ := val_rowE (k := 5) (en := Nd.cs) (ok := Nd.ok) Try.underlying22 (by kernel_rfl) Nd.cs_len (by decide) (fun _ _ _ h => trod_node h) h0
  obtain ⟨a1, len1, cap1, rfl⟩ := okWide_slice Try.underlying23 (hval 1 23 v1 rfl rfl)
  obtain ⟨z1, w1, k1, dr1, nest1⟩ := val_rowL Try.underlying23 h1
  obtain ⟨a2_0, a2_1, rfl, w2_0, w2_1⟩ := val_vec2 Try.underlying25 Try.underlying2 Try.underlying2 (by kernel_rfl) (by kernel_rfl) (hval 2 25 v2 rfl rfl) h2
  clear hA0 hval0
  refine (walk a0 len0 cap0 z0 a1 len1 cap1 z1 a2_0 a2_1 W w0 k0 w1 k1 w2_0 w2_1).mono fun e W' ⟨he, bel⟩ => ?_
  subst he
  exact ⟨_, rfl, _, _, _, [], _, [], hW', trodAll_mk1 (shut_bool Try.underlying4 _), (trodAll_cons_mk (Below.trod laidOut (by kernel_rfl) (of_decide_eq_true (by kernel_rfl)) h0 bel lt0) (trodAll_cons_mk (Below.trod laidOut (by kernel_rfl) (of_decide_eq_true (by kernel_rfl)) h1 bel lt1) (trodAll_cons_mk (Below.trod laidOut (by kernel_rfl) (of_decide_eq_true (by kernel_rfl)) h2 bel lt2) trodAll_mk0))), rfl, bel.frame _, fun h => by cases h⟩

theorem over : Rows.placeFitsRow.holds Try.pinned (OpenSpec.ofChange Rows.placeFitsSpec) :=
  OpenClaim.holds_of_wide 5 Try.f5 rfl rfl rfl rfl rfl rfl rfl ⟨rfl, rfl, rfl, rfl, rfl⟩ rfl rfl rfl rfl rfl (by kernel_rfl) Try.func5 (by kernel_rfl)
    (of_decide_eq_true (by kernel_rfl)) (by unfold Func.isWrapper; first | (rw [if_pos (by decide +kernel)]; kernel_rfl) | (rw [if_neg (by decide +kernel)]; exact ⟨rfl, rfl⟩))
    (fun os started H enc _ => lifted os started H enc)

theorem proved : Rows.PlaceFitsSaid := over

end Go.Proofs.Ytikalkigmnipiaa.placeFits
