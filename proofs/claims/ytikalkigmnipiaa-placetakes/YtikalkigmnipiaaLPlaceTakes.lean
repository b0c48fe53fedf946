/- PlaceTakes: for every list of nodes, every list of leases, every need and every number the law answers true, and its arguments read as they did. No further conditions. -/
import Derived.Test.YtikalkigmnipiaaPW
import Derived.Test.YtikalkigmnipiaaPV
namespace Go.Proofs.Ytikalkigmnipiaa.placeTakes
open Go.ChangeShapes Go.WideShapes Go.ChangeAt Go.RowKit Go.Deep Go.Maps Go.Shelf
set_option linter.unusedVariables false
set_option linter.unusedSimpArgs false

theorem dropN {w : World} {g len : Nat} {l : List Int} (h : HoldsN w (some ⟨g, 0, none⟩) len len l) {n : Nat} (hn : n ≤ len) : HoldsN w (some ⟨g, n, none⟩) (len - n) (len - n) (l.drop n) := by
  obtain ⟨h1, h2, h3, h4, h5⟩ := h
  refine ⟨by rw [List.length_drop]; omega, by omega, by omega, (fun e => by cases e), fun hp => ?_⟩
  obtain ⟨b, off, e, hlt, hc⟩ := h5 (by omega)
  cases e
  refine ⟨g, n, rfl, hlt, fun j x hx i v hv => ?_⟩
  rw [List.getElem?_drop] at hx
  have := hc (n + j) x hx i v hv
  rw [show n + j * 1 + i = 0 + (n + j) * 1 + i by omega]
  exact this

set_option maxRecDepth 100000 in
set_option maxHeartbeats 8000000 in
theorem walk_no (a : Option Addr) (len cap : Nat) (ns : List Nd) (qa : Option Addr) (ql qc : Nat) (l : List Le) (nc nm task : Int) (w : World) (h : HoldsD w a len cap ns) (hl : HoldsL w qa ql qc l) (hE : fndE ns (l.map Le.z) nc nm ≠ 0) :
    Calls Try.prog 6 #[.slice a len cap, .slice qa ql qc, .agg #[.int .i64 nc, .int .i64 nm], .int .i64 task] w fun e w' => e = .returned (.bool true) ∧ Below w.heap.size w w' := by
  have FN := hid (fun W (hW : Below w.heap.size w W) => pfind_any a len cap ns qa ql qc l nc nm W (h.below hW) (hl.below hW))
  have BW : Hid (Below w.heap.size w (w.alloc (.cells #[.int .i64 nc, .int .i64 nm] 25))) := (Below.refl _ w).alloc (Nat.le_refl _) _
  have M0 : Hid ((w.alloc (.cells #[.int .i64 nc, .int .i64 nm] 25)).cell? ⟨w.heap.size, 0, none⟩ = some (.int .i64 nc)) := by unfold Hid; simp [go_sem]
  have M1 : Hid ((w.alloc (.cells #[.int .i64 nc, .int .i64 nm] 25)).cell? ⟨w.heap.size, 1, none⟩ = some (.int .i64 nm)) := by unfold Hid; simp [go_sem]
  have t : (fndE ns (l.map Le.z) nc nm != 0) = true := by simpa using hE
  clear h hl hE
  generalize fndE ns (l.map Le.z) nc nm = E at *
  generalize fndI ns (l.map Le.z) nc nm = FI at *
  generalize fndL ns (l.map Le.z) nc nm = FL at *
  go_enter Try.func6, Try.ntmps6
  go_wp2_with fail
  refine (awake7_any _).mono ?_
  rintro e w1 ⟨rfl, b1⟩
  have B1 := hid (BW.out.trans (b1.mono BW.out.size))
  have m0 := keepc b1 M0.out
  have m1 := keepc b1 M1.out
  clear b1 M0 M1
  go_wp2_with fail
  refine (FN.out _ B1.out).mono ?_
  rintro e w2 ⟨v2, rfl, o2, b2⟩
  have B2 := hid (B1.out.trans (b2.mono B1.out.size))
  clear b2 o2
  go_wp2
  go_ret
  exact ⟨rfl, B2.out⟩

set_option maxRecDepth 100000 in
set_option maxHeartbeats 16000000 in
theorem walk_ok (a : Option Addr) (len cap : Nat) (ns : List Nd) (qa : Option Addr) (ql qc : Nat) (l : List Le) (nc nm task : Int) (w : World) (h : HoldsD w a len cap ns) (hl : HoldsL w qa ql qc l) (hs : qc * 80 ≤ 140737488351232) (hn : ∀ q ∈ l, q.sc * 8 ≤ 140737488351232) (hE : fndE ns (l.map Le.z) nc nm = 0) :
    Calls Try.prog 6 #[.slice a len cap, .slice qa ql qc, .agg #[.int .i64 nc, .int .i64 nm], .int .i64 task] w fun e w' => e = .returned (.bool true) ∧ Below w.heap.size w w' := by
  have qcap := hl.1.2.1
  have TW := hid (fun W (hW : Below w.heap.size w W) => twin7_any qa ql qc l W (hl.below hW) hs hn)
  have FN := hid (fun W (hW : Below w.heap.size w W) => pfind_any a len cap ns qa ql qc l nc nm W (h.below hW) (hl.below hW))
  obtain ⟨ls, hls⟩ : ∃ x, l.map Le.z = x := ⟨_, rfl⟩
  rw [hls] at FN hE
  have LZ := hid hls
  have he : plE ns ls = 0 ∧ needB nc nm = false ∧ ∃ j, fndO ns ls nc nm = some j := by
    have h' := hE
    unfold fndE at h'
    split at h'
    · rename_i h0
      split at h'
      · cases h'
      · rename_i hb
        split at h'
        · rename_i h1
          exact ⟨h0, by simpa using hb, Option.isSome_iff_exists.1 h1⟩
        · cases h'
    · rename_i h0; exact absurd h' h0
  obtain ⟨he, hnb, j, ho⟩ := he
  obtain ⟨h64, hn', hp⟩ := plE_zero he
  obtain ⟨hj, hfc, hfm⟩ := fnd_fit he ho
  have hN := ((ndsB_iff.1 hn').1 j hj).1
  have f1 : fndI ns ls nc nm = (da ns j).id := by unfold fndI; rw [hE, if_pos rfl, ho]; rfl
  have f2 : fndL ns ls nc nm = (frL ns ls j).take nc.toNat := by unfold fndL; rw [hE, if_pos rfl, ho]; rfl
  unfold needB at hnb
  simp at hnb
  have hck : okp nc ∧ okp nm := by
    have h1 := hnb.2
    unfold chk at h1
    split at h1
    · assumption
    · exact absurd h1 (by decide)
  have hnm := hck.2
  unfold okp at hnm
  obtain ⟨cn, rfl⟩ : ∃ c : Nat, nc = c := ⟨nc.toNat, by omega⟩
  rw [Int.toNat_natCast] at f2
  have f3 : ((frL ns ls j).take cn).length = cn := by rw [List.length_take]; omega
  rw [f1, f2, f3, hE] at FN
  obtain ⟨t1, t2, t3⟩ := take_found (cn := cn) he hj hnm.1 hnm.2 hfm
  have hI := ndI_at hn' hj
  have g1 : freeE ns ls (da ns j).id = 0 := by unfold freeE; rw [if_pos he, hI, if_pos hj]
  have g2 : freeL ns ls (da ns j).id = frL ns ls j := by unfold freeL; rw [g1, if_pos rfl, hI]
  have g3 : freeM ns ls (da ns j).id = frM ns ls j := by unfold freeM; rw [g1, if_pos rfl, hI]
  have E1 : Hid (freeE ns (ls ++ [⟨(da ns j).id, nm, (frL ns ls j).take cn⟩]) (da ns j).id = 0) := by unfold Hid freeE; rw [if_pos t1, hI, if_pos hj]
  have E2 : Hid (freeL ns (ls ++ [⟨(da ns j).id, nm, (frL ns ls j).take cn⟩]) (da ns j).id = (frL ns ls j).drop cn) := by unfold Hid freeL; rw [E1.out, if_pos rfl, hI, t2]
  have E3 : Hid (freeM ns (ls ++ [⟨(da ns j).id, nm, (frL ns ls j).take cn⟩]) (da ns j).id = frM ns ls j - nm) := by unfold Hid freeM; rw [E1.out, if_pos rfl, hI, t3]
  have DL : Hid (((frL ns ls j).drop cn).length = (frL ns ls j).length - cn) := by unfold Hid; rw [List.length_drop]
  have FR1 := hid (fun W (hW : Below w.heap.size w W) => pfree_any a len cap ns qa ql qc l (da ns j).id W (h.below hW) (hl.below hW))
  rw [hls, g1, g2, g3] at FR1
  have FR := hid (fun W (hW : Below w.heap.size w W) ma mn mc l2 (hh : HoldsL W ma mn mc l2) => pfree_any a len cap ns ma mn mc l2 (da ns j).id W (h.below hW) hh)
  have LE64 : Hid ((frL ns ls j).length ≤ 64) := by have := freeT_le (rmA ls (da ns j)).tk (da ns j).co.toNat; unfold Hid frL; omega
  have fmb := fr_ok hn' hp hj
  have hfm2 : okp (frM ns ls j) := fmb.2
  unfold okp at hfm2
  have WR : Hid (IntKind.i64.wrap (frM ns ls j - nm) = frM ns ls j - nm) := by unfold Hid; rw [IntKind.wrap_i64]; omega
  have hcn1 : 1 ≤ cn := by omega
  have hcn2 : cn ≤ (frL ns ls j).length := by omega
  have BW : Hid (Below w.heap.size w (w.alloc (.cells #[.int .i64 (cn : Int), .int .i64 nm] 25))) := (Below.refl _ w).alloc (Nat.le_refl _) _
  have M0 : Hid ((w.alloc (.cells #[.int .i64 (cn : Int), .int .i64 nm] 25)).cell? ⟨w.heap.size, 0, none⟩ = some (.int .i64 (cn : Int))) := by unfold Hid; simp [go_sem]
  have M1 : Hid ((w.alloc (.cells #[.int .i64 (cn : Int), .int .i64 nm] 25)).cell? ⟨w.heap.size, 1, none⟩ = some (.int .i64 nm)) := by unfold Hid; simp [go_sem]
  clear h hl hn hE he hnb ho h64 hn' hp hfc hfm hN f1 f2 f3 hck hnm t1 t2 t3 hI g1 g2 g3 fmb hfm2 hj hls
  generalize (da ns j).id = ID at *
  generalize hCO : (frL ns ls j).take cn = CO at *
  generalize hFL : frL ns ls j = FL at *
  generalize frM ns ls j = FM at *
  generalize hNN : FL.length = N at *
  have FLL := hid hNN
  clear hCO hFL hNN
  go_enter Try.func6, Try.ntmps6
  go_wp2_with fail
  refine (awake7_any _).mono ?_
  rintro e w1 ⟨rfl, b1⟩
  have B1 := hid (BW.out.trans (b1.mono BW.out.size))
  have m0 := keepc b1 M0.out
  have m1 := keepc b1 M1.out
  clear b1 M0 M1
  go_wp2_with fail
  refine (FN.out _ B1.out).mono ?_
  rintro e w2 ⟨v2, rfl, o2, b2⟩
  obtain ⟨ca, rfl, hc⟩ := o2.holds
  have HC := hid hc
  have B2 := hid (B1.out.trans (b2.mono B1.out.size))
  replace m1 := hid (keepc b2 m1)
  clear b2 o2 hc FN B1 m0
  go_wp2_with fail
  refine (FR1.out _ B2.out).mono ?_
  rintro e w3 ⟨v3, rfl, o3, b3⟩
  have M3 := hid (keepc b3 m1.out)
  have HC3 := hid (HC.out.below b3)
  have B3 := hid (B2.out.trans (b3.mono B2.out.size))
  rcases o3 with ⟨rfl, hz, _⟩ | ⟨gc, rfl, hg1, hg2, hg3, _⟩
  · omega
  have HD3 := hid hg3
  clear b3 hg1 hg2 hg3 FR1 B2 HC m1
  go_upto_region 7 with fail
  have kW : Below w3.heap.size w3 w3.drew := (Below.refl _ w3).drew
  have e1 := drewc M3.out
  have KW : Hid (Below w.heap.size w w3.drew) := B3.out.trans (kW.mono B3.out.size)
  refine wp_region_held_drew (S := (fun w' => w'.cell? ⟨w.heap.size, 1, none⟩ = some (.int .i64 nm))) (by kernel_rfl) e1 (fun hHeld => ?_)
  refine wpAnyH_take (i := 0) (v := .slice qa ql qc) rfl (by kernel_rfl) (by kernel_rfl) (by kernel_rfl) (fun _ _ _ h => h) (Or.inl ⟨by rfl, ?_⟩) (by assumption) ?_
  · (intro w hSw; (try dsimp only at hSw); go_simp)
  (try simp only [Act.put, List.getElem_toArray, List.getElem_cons_succ, List.getElem_cons_zero, List.setIfInBounds_toArray, List.set_cons_zero, List.set_cons_succ])
  refine wpAnyH_take (i := 2) (v := .int .i64 task) rfl (by kernel_rfl) (by kernel_rfl) (by kernel_rfl) (fun _ _ _ h => h) (Or.inl ⟨by rfl, ?_⟩) (by assumption) ?_
  · (intro w hSw; (try dsimp only at hSw); go_simp)
  (try simp only [Act.put, List.getElem_toArray, List.getElem_cons_succ, List.getElem_cons_zero, List.setIfInBounds_toArray, List.set_cons_zero, List.set_cons_succ])
  refine wpAnyH_take (i := 3) (v := .int .i64 ID) rfl (by kernel_rfl) (by kernel_rfl) (by kernel_rfl) (fun _ _ _ h => h) (Or.inl ⟨by rfl, ?_⟩) (by assumption) ?_
  · (intro w hSw; (try dsimp only at hSw); go_simp)
  (try simp only [Act.put, List.getElem_toArray, List.getElem_cons_succ, List.getElem_cons_zero, List.setIfInBounds_toArray, List.set_cons_zero, List.set_cons_succ])
  refine wpAnyH_take (i := 4) (v := .slice ca cn cn) rfl (by kernel_rfl) (by kernel_rfl) (by kernel_rfl) (fun _ _ _ h => h) (Or.inl ⟨by rfl, ?_⟩) (by assumption) ?_
  · (intro w hSw; (try dsimp only at hSw); go_simp)
  (try simp only [Act.put, List.getElem_toArray, List.getElem_cons_succ, List.getElem_cons_zero, List.setIfInBounds_toArray, List.set_cons_zero, List.set_cons_succ])
  refine wpAnyH_take (i := 5) (v := .pointer (some ⟨w.heap.size, 1, none⟩)) rfl (by kernel_rfl) (by kernel_rfl) (by kernel_rfl) (fun _ _ _ h => h) (Or.inl ⟨by rfl, ?_⟩) (by assumption) ?_
  · (intro w hSw; (try dsimp only at hSw); go_simp)
  (try simp only [Act.put, List.getElem_toArray, List.getElem_cons_succ, List.getElem_cons_zero, List.setIfInBounds_toArray, List.set_cons_zero, List.set_cons_succ])
  refine wpAnyH_take (i := 6) (v := .int .i64 nm) rfl (by kernel_rfl) (by kernel_rfl) (by kernel_rfl) (fun _ _ _ h => h) (Or.inl ⟨by rfl, ?_⟩) (by assumption) ?_
  · (intro w hSw; (try dsimp only at hSw); go_simp)
  (try simp only [Act.put, List.getElem_toArray, List.getElem_cons_succ, List.getElem_cons_zero, List.setIfInBounds_toArray, List.set_cons_zero, List.set_cons_succ])
  refine wpAnyH_take (i := 7) (v := .agg #[.int .i64 task, .int .i64 0, .int .i64 ID, .slice ca cn cn, .int .i64 nm, .int .i64 0, .int .i64 0, .bool false]) rfl (by kernel_rfl) (by kernel_rfl) (by kernel_rfl) (fun _ _ _ h => h) (Or.inl ⟨by rfl, ?_⟩) (by assumption) ?_
  · (intro w hSw; (try dsimp only at hSw); go_simp)
  (try simp only [Act.put, List.getElem_toArray, List.getElem_cons_succ, List.getElem_cons_zero, List.setIfInBounds_toArray, List.set_cons_zero, List.set_cons_succ])
  refine wpAnyH_ready (rs := [1, 8]) (by kernel_rfl) (by simp) ?_
  refine AllReadyH.cons rfl (fun K hK => ?_) (AllReadyH.cons rfl (fun K hK => ?_) AllReadyH.nil)
  · go_simp
    refine (TW.out _ KW.out).mono ?_
    rintro e w4 ⟨v4, rfl, ⟨l', o4, n4, y4⟩, b4⟩
    have f1 := keepc b4 e1
    refine hK.out _ _ f1 (fun hHeld => ?_)
    clear hK K
    (try simp only [Act.put, List.getElem_toArray, List.getElem_cons_succ, List.getElem_cons_zero, List.setIfInBounds_toArray, List.set_cons_zero, List.set_cons_succ])
    refine wpAnyH_ready (rs := [8]) (by kernel_rfl) (by simp) ?_
    refine AllReadyH.cons rfl (fun K hK => ?_) AllReadyH.nil
    go_simp
    have kL : Below w4.heap.size w4 (w4.alloc (.cells #[.int .i64 task, .int .i64 0, .int .i64 ID, .slice ca cn cn, .int .i64 nm, .int .i64 0, .int .i64 0, .bool false] 43)) := (Below.refl _ _).alloc (Nat.le_refl _) _
    have f2 := keepc kL f1
    refine hK.out _ _ f2 (fun hHeld => ?_)
    clear hK K
    (try simp only [Act.put, List.getElem_toArray, List.getElem_cons_succ, List.getElem_cons_zero, List.setIfInBounds_toArray, List.set_cons_zero, List.set_cons_succ])
    have o4L := o4.below kL
    have K4 : Below w3.heap.size w3 w4 := kW.trans b4
    have K4L : Below w3.heap.size w3 (w4.alloc (.cells #[.int .i64 task, .int .i64 0, .int .i64 ID, .slice ca cn cn, .int .i64 nm, .int .i64 0, .int .i64 0, .bool false] 43)) := K4.trans (kL.mono K4.size)
    refine wpAnyH_ready (rs := [9]) (by kernel_rfl) (by simp) ?_
    refine AllReadyH.cons rfl (fun K hK => ?_) AllReadyH.nil
    rw [if_pos (by rfl)]
    refine cat_one 23 43 _ 80 Le.cs_len Le.one Try.underlying23 infoL (by kernel_rfl) (by decide) _ (.tmp 40) (.tmp 47) rfl w3.heap.size ql _ l' rfl o4L K4L.size _ 1 1 [(⟨task, 0, ID, ca, cn, cn, nm, 0, 0, false, CO⟩ : Le)] rfl (holds_lit (l := [(⟨task, 0, ID, ca, cn, cn, nm, 0, 0, false, CO⟩ : Le)]) Le.cs_len (heap_alloc_new _ _) rfl (by simp)) (by omega) (by omega) ?_
    intro v5 w5 o5 b5 g5
    have NG : ∀ x ∈ l', OwnN w3.heap.size w5 (.slice x.sa x.sl x.sc) x.sl x.co := fun x hx => own_grown ((n4 x hx).below kL) o4L g5
    have K5 : Below w3.heap.size w3 w5 := K4L.trans b5
    obtain ⟨am, cm, rfl⟩ := o5.form
    have HM : Hid (HoldsL w5 am (ql + 1) cm (l' ++ [(⟨task, 0, ID, ca, cn, cn, nm, 0, 0, false, CO⟩ : Le)])) := by
      refine ⟨o5.holds Le.cs_len, fun x hx => ?_⟩
      rcases List.mem_append.1 hx with h | h
      · exact (NG x h).holds encN_len
      · obtain rfl : x = _ := List.mem_singleton.1 h
        exact HC3.out.below K5
    have HZ2 : Hid ((l' ++ [(⟨task, 0, ID, ca, cn, cn, nm, 0, 0, false, CO⟩ : Le)]).map Le.z = ls ++ [⟨ID, nm, CO⟩]) := by unfold Hid; rw [List.map_append, map_z y4, LZ.out]; rfl
    have B5 := hid (B3.out.trans (K5.mono B3.out.size))
    have HD5 := hid (HD3.out.below K5)
    have FD := hid (FR.out w5 B5.out am (ql + 1) cm _ HM.out)
    rw [HZ2.out, E1.out, E2.out, E3.out, DL.out] at FD
    have e5 := keepc K5 M3.out
    have M5 := hid e5
    refine hK.out _ _ e5 (fun hHeld => ?_)
    clear hK K
    (try simp only [Act.put, List.getElem_toArray, List.getElem_cons_succ, List.getElem_cons_zero, List.setIfInBounds_toArray, List.set_cons_zero, List.set_cons_succ])
    refine wpAnyH_take (i := 10) (v := .slice am (ql + 1) cm) rfl (by kernel_rfl) (by kernel_rfl) (by kernel_rfl) (fun _ _ _ h => h) (Or.inl ⟨by rfl, ?_⟩) (by assumption) ?_
    · (intro w hSw; (try dsimp only at hSw); go_simp)
    (try simp only [Act.put, List.getElem_toArray, List.getElem_cons_succ, List.getElem_cons_zero, List.setIfInBounds_toArray, List.set_cons_zero, List.set_cons_succ])
    refine wpAnyH_done (by kernel_rfl) ?_ _
    clear hHeld o5 b5 g5 NG K5 o4 n4 y4 b4 HM HZ2 e5 f1 f2 kL o4L K4 K4L e1 kW
    go_wp2_with fail
    refine FD.out.mono ?_
    rintro e w6 ⟨v6, rfl, o6, b6⟩
    obtain ⟨dd, rfl, hd⟩ := o6.holds
    have y1 := keepc b6 M5.out
    have HD6 := hid (HD5.out.below b6)
    have HE6 := hid hd
    have B6 := hid (B5.out.trans (b6.mono B5.out.size))
    clear o6 hd b6 FD M5 HD5
    have e1 : ((FM - nm) == (FM - nm)) = true := by simp
    have e3 : decide ((cn : Int) ≤ (N : Int)) = true := by simp; omega
    have e4 : decide (cn ≤ N) = true := by simp; omega
    have e2 : IntKind.i64.wrap (FM - nm) = FM - nm := WR.out
    have s1 : (0 : Int) ≤ (cn : Int) := by omega
    have s2 : (cn : Int) ≤ (N : Int) := by omega
    have ph : (0 ≤ (cn : Int) → (N : Int) < (cn : Int)) = False := by simp; omega
    by_cases gN : N = cn
    · subst gN
      have hD0 : FL.drop N = [] := List.drop_eq_nil_of_le (by rw [FLL.out]; omega)
      have hz : N - N = 0 := by omega
      rw [hz, hD0] at HE6
      rw [hz]
      have IT := hid (fun ad (h : ad ≠ none) => ints_any dd ad 0 0 0 [] w6 HE6.out ⟨rfl, by omega, by omega, fun h' => absurd h' h, fun h => absurd h (by omega)⟩ (by omega))
      clear HD6 HE6 hD0 hz
      go_wp2_with fail
      refine (IT.out _ (by simp)).mono ?_
      rintro e w7 ⟨rfl, b7⟩
      have B7 := hid (B6.out.trans (b7.mono B6.out.size))
      clear b7
      go_wp2
      go_ret
      exact ⟨rfl, B7.out⟩
    · have IT := hid (ints_any dd (some ⟨gc, cn, none⟩) (N - cn) (N - cn) (N - cn) (FL.drop cn) w6 HE6.out (dropN HD6.out (by omega)) (by have := HD6.out.2.2.1; have := LE64.out; omega))
      have gN' : ¬ cn = N := fun h => gN h.symm
      clear HD6 HE6
      go_wp2_with fail
      refine IT.out.mono ?_
      rintro e w7 ⟨rfl, b7⟩
      have B7 := hid (B6.out.trans (b7.mono B6.out.size))
      clear b7
      go_wp2
      go_ret
      exact ⟨rfl, B7.out⟩
  · go_simp
    have kL : Below w3.drew.heap.size w3.drew (w3.drew.alloc (.cells #[.int .i64 task, .int .i64 0, .int .i64 ID, .slice ca cn cn, .int .i64 nm, .int .i64 0, .int .i64 0, .bool false] 43)) := (Below.refl _ _).alloc (Nat.le_refl _) _
    have f1 := keepc kL e1
    refine hK.out _ _ f1 (fun hHeld => ?_)
    clear hK K
    (try simp only [Act.put, List.getElem_toArray, List.getElem_cons_succ, List.getElem_cons_zero, List.setIfInBounds_toArray, List.set_cons_zero, List.set_cons_succ])
    have KL : Below w3.heap.size w3 (w3.drew.alloc (.cells #[.int .i64 task, .int .i64 0, .int .i64 ID, .slice ca cn cn, .int .i64 nm, .int .i64 0, .int .i64 0, .bool false] 43)) := kW.trans kL
    refine wpAnyH_ready (rs := [1]) (by kernel_rfl) (by simp) ?_
    refine AllReadyH.cons rfl (fun K hK => ?_) AllReadyH.nil
    go_simp
    refine (TW.out _ (B3.out.trans (KL.mono B3.out.size))).mono ?_
    rintro e w4 ⟨v4, rfl, ⟨l', o4, n4, y4⟩, b4⟩
    have f2 := keepc b4 f1
    refine hK.out _ _ f2 (fun hHeld => ?_)
    clear hK K
    (try simp only [Act.put, List.getElem_toArray, List.getElem_cons_succ, List.getElem_cons_zero, List.setIfInBounds_toArray, List.set_cons_zero, List.set_cons_succ])
    have hl1 : HoldsE 8 Le.cs (w3.drew.alloc (.cells #[.int .i64 task, .int .i64 0, .int .i64 ID, .slice ca cn cn, .int .i64 nm, .int .i64 0, .int .i64 0, .bool false] 43)) (some ⟨w3.heap.size, 0, none⟩) 1 1 [(⟨task, 0, ID, ca, cn, cn, nm, 0, 0, false, CO⟩ : Le)] := holds_lit (l := [(⟨task, 0, ID, ca, cn, cn, nm, 0, 0, false, CO⟩ : Le)]) Le.cs_len (heap_alloc_new w3.drew _) rfl (by simp)
    have hl4 := hl1.below b4
    have K4 : Below w3.heap.size w3 w4 := KL.trans (b4.mono KL.size)
    refine wpAnyH_ready (rs := [9]) (by kernel_rfl) (by simp) ?_
    refine AllReadyH.cons rfl (fun K hK => ?_) AllReadyH.nil
    rw [if_pos (by rfl)]
    refine cat_one 23 43 _ 80 Le.cs_len Le.one Try.underlying23 infoL (by kernel_rfl) (by decide) _ (.tmp 40) (.tmp 47) rfl (w3.drew.alloc (.cells #[.int .i64 task, .int .i64 0, .int .i64 ID, .slice ca cn cn, .int .i64 nm, .int .i64 0, .int .i64 0, .bool false] 43)).heap.size ql _ l' rfl o4 b4.size _ 1 1 [(⟨task, 0, ID, ca, cn, cn, nm, 0, 0, false, CO⟩ : Le)] rfl hl4 (by omega) (by omega) ?_
    intro v5 w5 o5 b5 g5
    have NG : ∀ x ∈ l', OwnN (w3.drew.alloc (.cells #[.int .i64 task, .int .i64 0, .int .i64 ID, .slice ca cn cn, .int .i64 nm, .int .i64 0, .int .i64 0, .bool false] 43)).heap.size w5 (.slice x.sa x.sl x.sc) x.sl x.co := fun x hx => own_grown (n4 x hx) o4 g5
    have K5 : Below w3.heap.size w3 w5 := K4.trans (b5.mono KL.size)
    obtain ⟨am, cm, rfl⟩ := o5.form
    have HM : Hid (HoldsL w5 am (ql + 1) cm (l' ++ [(⟨task, 0, ID, ca, cn, cn, nm, 0, 0, false, CO⟩ : Le)])) := by
      refine ⟨o5.holds Le.cs_len, fun x hx => ?_⟩
      rcases List.mem_append.1 hx with h | h
      · exact (NG x h).holds encN_len
      · obtain rfl : x = _ := List.mem_singleton.1 h
        exact HC3.out.below K5
    have HZ2 : Hid ((l' ++ [(⟨task, 0, ID, ca, cn, cn, nm, 0, 0, false, CO⟩ : Le)]).map Le.z = ls ++ [⟨ID, nm, CO⟩]) := by unfold Hid; rw [List.map_append, map_z y4, LZ.out]; rfl
    have B5 := hid (B3.out.trans (K5.mono B3.out.size))
    have HD5 := hid (HD3.out.below K5)
    have FD := hid (FR.out w5 B5.out am (ql + 1) cm _ HM.out)
    rw [HZ2.out, E1.out, E2.out, E3.out, DL.out] at FD
    have e5 := keepc K5 M3.out
    have M5 := hid e5
    refine hK.out _ _ e5 (fun hHeld => ?_)
    clear hK K
    (try simp only [Act.put, List.getElem_toArray, List.getElem_cons_succ, List.getElem_cons_zero, List.setIfInBounds_toArray, List.set_cons_zero, List.set_cons_succ])
    refine wpAnyH_take (i := 10) (v := .slice am (ql + 1) cm) rfl (by kernel_rfl) (by kernel_rfl) (by kernel_rfl) (fun _ _ _ h => h) (Or.inl ⟨by rfl, ?_⟩) (by assumption) ?_
    · (intro w hSw; (try dsimp only at hSw); go_simp)
    (try simp only [Act.put, List.getElem_toArray, List.getElem_cons_succ, List.getElem_cons_zero, List.setIfInBounds_toArray, List.set_cons_zero, List.set_cons_succ])
    refine wpAnyH_done (by kernel_rfl) ?_ _
    clear hHeld o5 b5 g5 NG K5 o4 n4 y4 b4 HM HZ2 e5 f1 f2 kL KL hl1 hl4 K4 e1 kW
    go_wp2_with fail
    refine FD.out.mono ?_
    rintro e w6 ⟨v6, rfl, o6, b6⟩
    obtain ⟨dd, rfl, hd⟩ := o6.holds
    have y1 := keepc b6 M5.out
    have HD6 := hid (HD5.out.below b6)
    have HE6 := hid hd
    have B6 := hid (B5.out.trans (b6.mono B5.out.size))
    clear o6 hd b6 FD M5 HD5
    have e1 : ((FM - nm) == (FM - nm)) = true := by simp
    have e3 : decide ((cn : Int) ≤ (N : Int)) = true := by simp; omega
    have e4 : decide (cn ≤ N) = true := by simp; omega
    have e2 : IntKind.i64.wrap (FM - nm) = FM - nm := WR.out
    have s1 : (0 : Int) ≤ (cn : Int) := by omega
    have s2 : (cn : Int) ≤ (N : Int) := by omega
    have ph : (0 ≤ (cn : Int) → (N : Int) < (cn : Int)) = False := by simp; omega
    by_cases gN : N = cn
    · subst gN
      have hD0 : FL.drop N = [] := List.drop_eq_nil_of_le (by rw [FLL.out]; omega)
      have hz : N - N = 0 := by omega
      rw [hz, hD0] at HE6
      rw [hz]
      have IT := hid (fun ad (h : ad ≠ none) => ints_any dd ad 0 0 0 [] w6 HE6.out ⟨rfl, by omega, by omega, fun h' => absurd h' h, fun h => absurd h (by omega)⟩ (by omega))
      clear HD6 HE6 hD0 hz
      go_wp2_with fail
      refine (IT.out _ (by simp)).mono ?_
      rintro e w7 ⟨rfl, b7⟩
      have B7 := hid (B6.out.trans (b7.mono B6.out.size))
      clear b7
      go_wp2
      go_ret
      exact ⟨rfl, B7.out⟩
    · have IT := hid (ints_any dd (some ⟨gc, cn, none⟩) (N - cn) (N - cn) (N - cn) (FL.drop cn) w6 HE6.out (dropN HD6.out (by omega)) (by have := HD6.out.2.2.1; have := LE64.out; omega))
      have gN' : ¬ cn = N := fun h => gN h.symm
      clear HD6 HE6
      go_wp2_with fail
      refine IT.out.mono ?_
      rintro e w7 ⟨rfl, b7⟩
      have B7 := hid (B6.out.trans (b7.mono B6.out.size))
      clear b7
      go_wp2
      go_ret
      exact ⟨rfl, B7.out⟩

theorem walk (a : Option Addr) (len cap : Nat) (ns : List Nd) (qa : Option Addr) (ql qc : Nat) (l : List Le) (nc nm task : Int) (w : World) (h : HoldsD w a len cap ns) (hok : ∀ q ∈ ns, q.ok) (hs0 : cap * 40 ≤ 140737488351232) (hl : HoldsL w qa ql qc l) (hlk : ∀ q ∈ l, q.ok) (hs : qc * 80 ≤ 140737488351232) (hn : ∀ q ∈ l, q.sc * 8 ≤ 140737488351232) (i0 : I64 nc) (i1 : I64 nm) (i2 : I64 task) :
    Calls Try.prog 6 #[.slice a len cap, .slice qa ql qc, .agg #[.int .i64 nc, .int .i64 nm], .int .i64 task] w fun e w' => e = .returned (.bool true) ∧ Below w.heap.size w w' := by
  by_cases h1 : fndE ns (l.map Le.z) nc nm = 0
  · exact walk_ok a len cap ns qa ql qc l nc nm task w h hl hs hn h1
  · exact walk_no a len cap ns qa ql qc l nc nm task w h hl h1

theorem own : ownKnob Try.prog.godebug = none := by kernel_rfl
theorem laidOut : laidOutB Try.prog = true := by kernel_rfl

set_option maxRecDepth 100000 in
theorem lifted (os : Os) (started : os.Started) (H : Type) (enc : TypeId × Value → H) :
    ReturnsInHanded {} Try.checked os 6 .any (Rows.placeTakesSpec.pre6 enc Try.prog Try.f6 Rows.placeTakesRow.domain false) (Rows.placeTakesSpec.post enc Try.prog Try.f6 false true false false) := by
  refine returnsInHanded_of_change_sized (C := Try.checked) own started (by kernel_rfl) Try.func6
    (ChangeSpec.witness6 (enc := enc) (C := Try.checked) false ⟨#[], #[.slice none 0 0, .slice none 0 0, .agg #[.int .i64 0, .int .i64 0], .int .i64 0], []⟩ 8 (by kernel_rfl) (by kernel_rfl) (by kernel_rfl) (by kernel_rfl)) ?_
  intro W base args ds gs before hval0 hW hcnd hsz0 _
  have hsz : (DataW.weightsEach Try.prog (Try.f6.params.toList ++ Rows.placeTakesSpec.plain.varTypes Try.prog) (ds ++ gs)).all (· ≤ reachBytes) = true := hsz0
  have hval : ∀ (j : Nat) t v, Try.f6.params[j]? = some t → args[j]? = some v → Value.okWide Try.prog W .any base t v := hval0
  have hW' := hW
  obtain ⟨p, q, hA0, hV, rfl, hfz, hnd⟩ := hW
  have hA : DataW.TrodAll enc Try.prog W 0 (fun _ => true) true Try.f6.params.toList args.toList ds p := hA0
  rw [Try.params6] at hA hval hsz
  obtain ⟨v0, vs0, d0, ds0, p0, q0, hargs, rfl, rfl, h0, r0⟩ := trodAll_cons hA
  obtain ⟨v1, vs1, d1, ds1, p1, q1, rfl, rfl, rfl, h1, r1⟩ := trodAll_cons r0
  obtain ⟨v2, vs2, d2, ds2, p2, q2, rfl, rfl, rfl, h2, r2⟩ := trodAll_cons r1
  obtain ⟨v3, vs3, d3, ds3, p3, q3, rfl, rfl, rfl, h3, r3⟩ := trodAll_cons r2
  obtain ⟨rfl, rfl, rfl⟩ := trodAll_nil r3
  obtain rfl : args = #[v0, v1, v2, v3] := by cases args; simp_all
  obtain ⟨rfl, rfl⟩ := trodVars_none hV
  have lt0 : ∀ x ∈ p0, x.block < W.heap.size := by obtain ⟨m, hm⟩ := h0; exact DataW.trod_lt m _ _ _ hm
  have lt1 : ∀ x ∈ p1, x.block < W.heap.size := by obtain ⟨m, hm⟩ := h1; exact DataW.trod_lt m _ _ _ hm
  have lt2 : ∀ x ∈ p2, x.block < W.heap.size := by obtain ⟨m, hm⟩ := h2; exact DataW.trod_lt m _ _ _ hm
  have lt3 : ∀ x ∈ p3, x.block < W.heap.size := by obtain ⟨m, hm⟩ := h3; exact DataW.trod_lt m _ _ _ hm
  obtain ⟨a0, len0, cap0, rfl⟩ := okWide_slice Try.underlying22 (hval 0 22 v0 rfl rfl)
  obtain ⟨z0, w0, k0, dr0⟩ := val_rowE (k := 5) (en := Nd.cs) (ok := Nd.ok) Try.underlying22 (by kernel_rfl) Nd.cs_len (by decide) (fun _ _ _ h => trod_node h) h0
  have s0 : cap0 * 40 ≤ 140737488351232 := sized_cap dr0 hsz (j := 0) rfl rfl Try.underlying22 (by kernel_rfl)
  obtain ⟨a1, len1, cap1, rfl⟩ := okWide_slice Try.underlying23 (hval 1 23 v1 rfl rfl)
  obtain ⟨z1, w1, k1, dr1, nest1⟩ := val_rowL Try.underlying23 h1
  have s1 : cap1 * 80 ≤ 140737488351232 := sized_cap dr1 hsz (j := 1) rfl rfl Try.underlying23 (by kernel_rfl)
  have n1 : ∀ q ∈ z1, q.sc * 8 ≤ 140737488351232 := nest1 (by rw [List.all_eq_true]; intro n hn; exact (List.all_eq_true.1 hsz) n (DataW.weights_mem_each (j := 1) rfl rfl n hn))
  obtain ⟨a2_0, a2_1, rfl, w2_0, w2_1⟩ := val_vec2 Try.underlying25 Try.underlying2 Try.underlying2 (by kernel_rfl) (by kernel_rfl) (hval 2 25 v2 rfl rfl) h2
  obtain ⟨a3, rfl, w3⟩ := val_i64 Try.underlying3 (hval 3 3 v3 rfl rfl) h3
  clear hA0 hval0
  refine (walk a0 len0 cap0 z0 a1 len1 cap1 z1 a2_0 a2_1 a3 W w0 k0 s0 w1 k1 s1 n1 w2_0 w2_1 w3).mono fun e W' ⟨he, bel⟩ => ?_
  subst he
  exact ⟨_, rfl, _, _, _, [], _, [], hW', trodAll_mk1 (shut_bool Try.underlying4 _), (trodAll_cons_mk (Below.trod laidOut (by kernel_rfl) (of_decide_eq_true (by kernel_rfl)) h0 bel lt0) (trodAll_cons_mk (Below.trod laidOut (by kernel_rfl) (of_decide_eq_true (by kernel_rfl)) h1 bel lt1) (trodAll_cons_mk (Below.trod laidOut (by kernel_rfl) (of_decide_eq_true (by kernel_rfl)) h2 bel lt2) (trodAll_cons_mk (Below.trod laidOut (by kernel_rfl) (of_decide_eq_true (by kernel_rfl)) h3 bel lt3) trodAll_mk0)))), rfl, bel.frame _, fun h => by cases h⟩

theorem over : Rows.placeTakesRow.holds Try.pinned (OpenSpec.ofChange Rows.placeTakesSpec) :=
  OpenClaim.holds_of_wide 6 Try.f6 rfl rfl rfl rfl rfl rfl rfl ⟨rfl, rfl, rfl, rfl, rfl⟩ rfl rfl rfl rfl rfl (by kernel_rfl) Try.func6 (by kernel_rfl)
    (of_decide_eq_true (by kernel_rfl)) (by unfold Func.isWrapper; first | (rw [if_pos (by decide +kernel)]; kernel_rfl) | (rw [if_neg (by decide +kernel)]; exact ⟨rfl, rfl⟩))
    (fun os started H enc _ => lifted os started H enc)

theorem proved : Rows.PlaceTakesSaid := over

end Go.Proofs.Ytikalkigmnipiaa.placeTakes
