/-
  Contracts of place: Total.
-/
import Derived.Test.YtikalkigmnipiaaPJ
namespace Go.Proofs.Ytikalkigmnipiaa
open Go.RowKit Go.Deep Go.Maps Go.Shelf
set_option linter.unusedVariables false
set_option linter.unusedSimpArgs false

def totC : List Nd → Int
  | [] => 0
  | n :: r => n.co + totC r
def totM : List Nd → Int
  | [] => 0
  | n :: r => n.me + totM r
theorem totC_append (a b : List Nd) : totC (a ++ b) = totC a + totC b := by
  induction a with
  | nil => simp [totC]
  | cons x r ih => simp only [List.cons_append, totC, ih]; omega
theorem totM_append (a b : List Nd) : totM (a ++ b) = totM a + totM b := by
  induction a with
  | nil => simp [totM]
  | cons x r ih => simp only [List.cons_append, totM, ih]; omega
theorem totC_take {ns : List Nd} {k : Nat} (h : k < ns.length) : totC (ns.take (k + 1)) = totC (ns.take k) + (da ns k).co := by rw [take_da h, totC_append]; simp [totC]
theorem totM_take {ns : List Nd} {k : Nat} (h : k < ns.length) : totM (ns.take (k + 1)) = totM (ns.take k) + (da ns k).me := by rw [take_da h, totM_append]; simp [totM]
theorem tot_pos : ∀ {ns : List Nd}, (∀ n ∈ ns, 0 ≤ n.co ∧ n.co ≤ 64 ∧ 0 ≤ n.me) → 0 ≤ totC ns ∧ totC ns ≤ 64 * ns.length ∧ 0 ≤ totM ns := by
  intro ns
  induction ns with
  | nil => intro _; simp [totC, totM]
  | cons n r ih =>
    intro h
    have h1 := ih (fun x hx => h x (by simp [hx]))
    have h2 := h n (by simp)
    simp only [totC, totM, List.length_cons]
    omega
theorem nds_pos {ns : List Nd} {a : Int} (hn : ndsB a ns = true) : ∀ n ∈ ns, 0 ≤ n.co ∧ n.co ≤ 64 ∧ 0 ≤ n.me := by
  intro n hm
  obtain ⟨j, hj, rfl⟩ := List.getElem_of_mem hm
  have := (ndsB_iff.1 hn).1 j hj
  rw [da_eq hj] at this
  have h3 := this.1.2.2
  unfold okp at h3
  omega
/-- What Total answers. -/
def totE (ns : List Nd) : Int := if plE ns [] = 0 then (if okp (totC ns) ∧ okp (totM ns) then 0 else 2) else plE ns []
def totV (ns : List Nd) : Int × Int := if totE ns = 0 then (totC ns, totM ns) else (0, 0)
theorem tot_part {ns : List Nd} (hn : ndsB (-1) ns = true) (h64 : ns.length ≤ 64) {k : Nat} : 0 ≤ totC (ns.take k) ∧ totC (ns.take k) ≤ 4096 ∧ 0 ≤ totM (ns.take k) ∧ totM (ns.take k) ≤ totM ns := by
  have hp := nds_pos hn
  have h1 := tot_pos (ns := ns.take k) (fun n h => hp n (List.mem_of_mem_take h))
  have h2 := tot_pos (ns := ns.drop k) (fun n h => hp n (List.mem_of_mem_drop h))
  have h3 : totM ns = totM (ns.take k) + totM (ns.drop k) := by rw [← totM_append, List.take_append_drop]
  have h4 : (ns.take k).length ≤ 64 := by rw [List.length_take]; omega
  omega
theorem rop_add {a b c d : Int} (h1 : okp a ∧ okp b) (h2 : okp c ∧ okp d) : (rop (a, b) (c, d) (a + c, b + d) = ((a + c, b + d), 0) ∧ okp (a + c) ∧ okp (b + d)) ∨ (rop (a, b) (c, d) (a + c, b + d) = ((0, 0), 2) ∧ ¬ (okp (a + c) ∧ okp (b + d))) := by
  have e1 : okv (a, b) = true := by simpa [okv] using h1
  have e2 : okv (c, d) = true := by simpa [okv] using h2
  unfold rop rin
  rw [if_pos ⟨e1, e2⟩]
  by_cases h3 : okv (a + c, b + d) = true
  · rw [if_pos h3]; exact .inl ⟨rfl, okv_true h3⟩
  · rw [if_neg h3]; refine .inr ⟨rfl, fun h => h3 ?_⟩; simpa [okv] using h
theorem holdsL_nil (w : World) : HoldsL w none 0 0 [] := ⟨⟨rfl, by omega, by omega, fun _ => ⟨rfl, rfl⟩, fun h => absurd h (by omega)⟩, fun x hx => by cases hx⟩

set_option maxRecDepth 100000 in
set_option maxHeartbeats 8000000 in
theorem ptotal_any (a : Option Addr) (len cap : Nat) (ns : List Nd) (w : World) (h : HoldsD w a len cap ns) :
    Calls Try.prog 23 #[.slice a len cap] w fun e w' => e = .returned (.tuple #[.agg #[.int .i64 (totV ns).1, .int .i64 (totV ns).2], .int .i64 (totE ns)]) ∧ Below w.heap.size w w' := by
  have B0 : Hid (Below w.heap.size w (w.alloc (.cells #[.int .i64 0, .int .i64 0] 25))) := (Below.refl _ w).alloc (Nat.le_refl _) _
  have RD := hid (pread_any a len cap ns none 0 0 [] _ (h.below B0.out) (holdsL_nil (w.alloc (.cells #[.int .i64 0, .int .i64 0] 25))))
  rw [List.map_nil] at RD
  have HL := hid h.1
  have hcap := h.2.1
  clear h
  by_cases hE : plE ns [] = 0
  case neg =>
    have t : (plE ns [] != 0) = true := by simpa using hE
    have E1 : Hid (totE ns = plE ns []) := by unfold Hid totE; rw [if_neg hE]
    have E2 : Hid (totV ns = (0, 0)) := by unfold Hid totV; rw [E1.out, if_neg hE]
    clear hE
    generalize plE ns [] = PE at *
    go_enter Try.func23, Try.ntmps23
    go_wp2_with fail
    refine RD.out.mono ?_
    rintro e w1 ⟨v1, rfl, o1, b1⟩
    have f0 := keepf b1 (a := ⟨w.heap.size, 0, none⟩) (v := .int .i64 0) (by simp [go_sem]) (by simp [go_sem])
    have c0 := keepc b1 (a := ⟨w.heap.size, 0, none⟩) (v := .int .i64 0) (by simp [go_sem])
    have f1 := keepf b1 (a := ⟨w.heap.size, 1, none⟩) (v := .int .i64 0) (by simp [go_sem]) (by simp [go_sem])
    have c1 := keepc b1 (a := ⟨w.heap.size, 1, none⟩) (v := .int .i64 0) (by simp [go_sem])
    have B1 : Hid (Below w.heap.size w w1) := B0.out.trans (b1.mono B0.out.size)
    clear o1 b1
    go_wp2
    rw [E1.out, E2.out]
    exact bodyPost_ret (v := .tuple #[.agg #[.int .i64 0, .int .i64 0], .int .i64 PE]) (by simp [results, Try.results23, go_sem, c0, c1]) rfl ⟨rfl, (B1.out.setCell (by simp <;> omega) _).setCell (by simp <;> omega) _⟩
  obtain ⟨h64, hn, hp⟩ := plE_zero hE
  have HN := hid hn
  have HE := hid hE
  have H64 := hid h64
  have hlen : len ≤ 64 := by rw [← HL.out]; exact h64
  rw [hE] at RD
  have EC : Hid (totE ns = if okp (totC ns) ∧ okp (totM ns) then 0 else 2) := by unfold Hid totE; rw [if_pos hE]
  clear hE hn hp h64
  go_enter Try.func23, Try.ntmps23
  go_wp2_with fail
  refine RD.out.mono ?_
  rintro e w1 ⟨v1, rfl, o1, b1⟩
  have R1 : ∃ a cap, v1 = .slice a len cap ∧ Rooms (w.heap.size + 1) w1 a len cap (ns.map (rmA [])) := by
    rcases o1 with ⟨h, _⟩ | ⟨_, h⟩
    · exact absurd rfl h
    · simpa using h
  obtain ⟨ra, rc, rfl, hr⟩ := R1
  have f0 := keepf b1 (a := ⟨w.heap.size, 0, none⟩) (v := .int .i64 0) (by simp [go_sem]) (by simp [go_sem])
  have c0 := keepc b1 (a := ⟨w.heap.size, 0, none⟩) (v := .int .i64 0) (by simp [go_sem])
  have f1 := keepf b1 (a := ⟨w.heap.size, 1, none⟩) (v := .int .i64 0) (by simp [go_sem]) (by simp [go_sem])
  have c1 := keepc b1 (a := ⟨w.heap.size, 1, none⟩) (v := .int .i64 0) (by simp [go_sem])
  have R1 := hid hr
  have B1 : Hid (Below w.heap.size w w1) := B0.out.trans (b1.mono B0.out.size)
  have W1s : w.heap.size + 1 ≤ w1.heap.size := by have := b1.size; simpa using this
  have ZA : Hid (Below w1.heap.size w1 (w1.alloc (.cells #[.int .i64 0, .int .i64 0] 25))) := (Below.refl _ w1).alloc (Nat.le_refl _) _
  have rcap := hr.1.2.1
  have Z0 : Hid ((w1.alloc (.cells #[.int .i64 0, .int .i64 0] 25)).cell? ⟨w1.heap.size, 0, none⟩ = some (.int .i64 0)) := by unfold Hid; simp [go_sem]
  have Z1 : Hid ((w1.alloc (.cells #[.int .i64 0, .int .i64 0] 25)).cell? ⟨w1.heap.size, 1, none⟩ = some (.int .i64 0)) := by unfold Hid; simp [go_sem]
  have Z2 : Hid ((w1.alloc (.cells #[.int .i64 0, .int .i64 0] 25)).frozen? ⟨w1.heap.size, 0, none⟩ = false) := by unfold Hid; simp [go_sem]
  have Z3 : Hid ((w1.alloc (.cells #[.int .i64 0, .int .i64 0] 25)).frozen? ⟨w1.heap.size, 1, none⟩ = false) := by unfold Hid; simp [go_sem]
  have C0 := hid (And.intro (keepc ZA.out c0) (And.intro (keepc ZA.out c1) (And.intro (keepf ZA.out c0 f0) (keepf ZA.out c1 f1))))
  clear hr b1 o1 RD c0 c1 f0 f1
  go_wp2_with fail
  generalize hZ : (w1.alloc (.cells #[.int .i64 0, .int .i64 0] 25)) = wz at *
  have hzs : wz.heap.size = w1.heap.size + 1 := by rw [← hZ]; simp
  have HZS := hid hzs
  clear hZ hzs
  go_loopw [20, 5] (fun i x wr => ∃ k : Nat, k ≤ len ∧ i = .int .i64 (k : Int) ∧ x = .int .i64 0 ∧ Hid (okp (totC (ns.take k)) ∧ okp (totM (ns.take k))) ∧ Hid (wr.cell? ⟨w1.heap.size, 0, none⟩ = some (.int .i64 (totC (ns.take k))) ∧ wr.cell? ⟨w1.heap.size, 1, none⟩ = some (.int .i64 (totM (ns.take k))) ∧ wr.frozen? ⟨w1.heap.size, 0, none⟩ = false ∧ wr.frozen? ⟨w1.heap.size, 1, none⟩ = false) ∧ Hid (But w1.heap.size wz wr)) (fun i _ _ => len - (intOf i).toNat)
  case atStart => exact ⟨0, by omega, rfl, rfl, ⟨by unfold okp; simp [totC], by unfold okp; simp [totM]⟩, ⟨Z0.out, Z1.out, Z2.out, Z3.out⟩, But.refl _ _⟩
  case round =>
    obtain ⟨k, hk, rfl, rfl, hS, hC, hB⟩ := hrel
    have hws : wz.heap.size ≤ wr.heap.size := hB.out.size
    have cR0 := hB.out.cell C0.out.1 (by omega)
    have cR1 := hB.out.cell C0.out.2.1 (by omega)
    have fR0 := hB.out.frozen C0.out.1 (by omega) C0.out.2.2.1
    have fR1 := hB.out.frozen C0.out.2.1 (by omega) C0.out.2.2.2
    have KB : Hid (Below w.heap.size w wr) := B1.out.trans ((ZA.out.trans (hB.out.bel.mono (Nat.le_refl _))).mono B1.out.size)
    by_cases hlt : k < len
    · have hk' : k < ns.length := by rw [HL.out]; exact hlt
      rcases R1.out.2 with ⟨_, h0⟩ | ⟨g, rfl, hg1, hg2, hg3⟩
      · omega
      clear hg3
      have RGz := rangeAt_below (R1.out.at' hk') ZA.out
      have RG : wr.rangeAt g (k * 71) (rmA [] (da ns k)).cs := fun i v hv => hB.out.cell (RGz i v hv) (by omega)
      rw [rmA_nil] at RG
      have LD := hid (load_room wr g _ (rm0 (da ns k)) RG)
      have ka : (0 : Int) ≤ (k : Int) := by omega
      have kb : (k : Int) < (len : Int) := by omega
      have BA : Hid (Below wr.heap.size wr (wr.alloc (.cells (rm0 (da ns k)).cs.toArray 80))) := (Below.refl _ wr).alloc (Nat.le_refl _) _
      have y0 := room_fc (rm0 (da ns k)) wr 80
      have y1 := room_fm (rm0 (da ns k)) wr 80
      have q0 := keepc BA.out hC.out.1
      have q1 := keepc BA.out hC.out.2.1
      have q2 := keepf BA.out hC.out.1 hC.out.2.2.1
      have q3 := keepf BA.out hC.out.2.1 hC.out.2.2.2
      have r0 := keepc BA.out cR0
      have r1 := keepc BA.out cR1
      have r2 := keepf BA.out cR0 fR0
      have r3 := keepf BA.out cR1 fR1
      have hN := ((ndsB_iff.1 HN.out).1 k hk').1
      have VA := hid (fun W => vadd_any (totC (ns.take k)) (totM (ns.take k)) (da ns k).co (da ns k).me W)
      have hcase := rop_add hS.out (c := (da ns k).co) (d := (da ns k).me) ⟨by unfold okp; omega, hN.2.2⟩
      have TC := hid (totC_take hk')
      have TM := hid (totM_take hk')
      have PT := hid (tot_part HN.out H64.out (k := k + 1))
      clear RGz RG cR0 cR1 fR0 fR1 hN hg1
      have hyc : (rm0 (da ns k)).fc = (da ns k).co := rfl
      have hym : (rm0 (da ns k)).fm = (da ns k).me := rfl
      rw [hyc] at y0
      rw [hym] at y1
      clear hyc hym
      rw [← TC.out, ← TM.out] at hcase VA
      generalize (da ns k).co = DC at *
      generalize (da ns k).me = DM at *
      generalize hSC : totC (ns.take k) = SC at *
      generalize hSM : totM (ns.take k) = SM at *
      clear hSC hSM
      rcases hcase with ⟨hr, hok⟩ | ⟨hr, hno⟩
      · rw [hr] at VA
        have HOK := hid hok
        clear hr hok
        go_wp2_with (first | refine wpList_load_room rfl (.tmp 22) rfl _ _ rfl _ LD.out ?_ | refine wpList_alloc_room rfl rfl ?_ | refine wpList_store_room rfl (.tmp 8) (.tmp 23) rfl (rm0 (da ns k)) _ rfl rfl (by simp [Rm.cs_len]) ?_)
        refine (VA.out _).mono ?_
        rintro e w3 ⟨rfl, b3⟩
        have b4 := BA.out.trans (b3.mono BA.out.size)
        have s0 := keepc b3 q0
        have s1 := keepc b3 q1
        have s2 := keepf b3 q0 q2
        have s3 := keepf b3 q1 q3
        have hw1 : w1.heap.size ≤ wr.heap.size := by have := HZS.out; omega
        have B4 : Hid (But w1.heap.size wz ((w3.setCell ⟨w1.heap.size, 0, none⟩ (.int .i64 (totC (ns.take (k + 1))))).setCell ⟨w1.heap.size, 1, none⟩ (.int .i64 (totM (ns.take (k + 1)))))) := (hB.out.trans (But.of b4 hw1)).trans ((But.setCell _ _ _ _).trans (But.setCell _ _ _ _))
        clear b3 b4 q0 q1 q2 q3 r0 r1 r2 r3 y0 y1 VA TC TM LD
        generalize hNC : totC (ns.take (k + 1)) = NC at *
        generalize hNM : totM (ns.take (k + 1)) = NM at *
        have HNC := hid hNC
        have HNM := hid hNM
        clear hNC hNM
        have z0 : ((w3.setCell ⟨w1.heap.size, 0, none⟩ (.int .i64 NC)).setCell ⟨w1.heap.size, 1, none⟩ (.int .i64 NM)).cell? ⟨w1.heap.size, 0, none⟩ = some (.int .i64 NC) := by simp [go_sem, s0, s1]
        have z1 : ((w3.setCell ⟨w1.heap.size, 0, none⟩ (.int .i64 NC)).setCell ⟨w1.heap.size, 1, none⟩ (.int .i64 NM)).cell? ⟨w1.heap.size, 1, none⟩ = some (.int .i64 NM) := by simp [go_sem, s0, s1]
        have z2 : ((w3.setCell ⟨w1.heap.size, 0, none⟩ (.int .i64 NC)).setCell ⟨w1.heap.size, 1, none⟩ (.int .i64 NM)).frozen? ⟨w1.heap.size, 0, none⟩ = false := by simp [go_sem, s2]
        have z3 : ((w3.setCell ⟨w1.heap.size, 0, none⟩ (.int .i64 NC)).setCell ⟨w1.heap.size, 1, none⟩ (.int .i64 NM)).frozen? ⟨w1.heap.size, 1, none⟩ = false := by simp [go_sem, s3]
        have ZZ := hid (And.intro z0 (And.intro z1 (And.intro z2 z3)))
        clear z0 z1 z2 z3
        go_wp2
        go_roundw
        case rel => exact ⟨k + 1, by omega, by go_num, rfl, by rw [HNC.out, HNM.out]; exact HOK, by rw [HNC.out, HNM.out]; exact ZZ, B4⟩
        case measure => simp [intOf]; omega
      · rw [hr] at VA
        have E1 : Hid (totE ns = 2) := by
          unfold Hid
          rw [EC.out, if_neg]
          rintro ⟨h1, h2⟩
          have := PT.out
          unfold okp at h1 h2 hno
          omega
        have E2 : Hid (totV ns = (0, 0)) := by unfold Hid totV; rw [E1.out]; rfl
        clear hr hno PT EC
        go_wp2_with (first | refine wpList_load_room rfl (.tmp 22) rfl _ _ rfl _ LD.out ?_ | refine wpList_alloc_room rfl rfl ?_ | refine wpList_store_room rfl (.tmp 8) (.tmp 23) rfl (rm0 (da ns k)) _ rfl rfl (by simp [Rm.cs_len]) ?_)
        refine (VA.out _).mono ?_
        rintro e w3 ⟨rfl, b3⟩
        have b4 := BA.out.trans (b3.mono BA.out.size)
        have s0 := keepc b3 q0
        have s1 := keepc b3 q1
        have s2 := keepf b3 q0 q2
        have s3 := keepf b3 q1 q3
        have p0 := keepc b3 r0
        have p1 := keepc b3 r1
        have p2 := keepf b3 r0 r2
        have p3 := keepf b3 r1 r3
        have B4 := hid (KB.out.trans (b4.mono KB.out.size))
        have ne1 : w1.heap.size ≠ w.heap.size := by omega
        have ne2 : w.heap.size ≠ w1.heap.size := by omega
        clear b3 b4 q0 q1 q2 q3 r0 r1 r2 r3 y0 y1 VA TC TM LD
        go_wp2
        rw [E1.out, E2.out]
        exact bodyPost_ret (v := .tuple #[.agg #[.int .i64 0, .int .i64 0], .int .i64 2]) (by simp [results, Try.results23, go_sem, p0, p1]) rfl ⟨rfl, (((B4.out.setCell (by show w.heap.size ≤ w1.heap.size; omega) _).setCell (by show w.heap.size ≤ w1.heap.size; omega) _).setCell (by simp <;> omega) _).setCell (by simp <;> omega) _⟩
    · have tk : ns.take k = ns := List.take_of_length_le (by rw [HL.out]; omega)
      rw [tk] at hS hC
      have E1 : Hid (totE ns = 0) := by unfold Hid; rw [EC.out, if_pos hS.out]
      have E2 : Hid (totV ns = (totC ns, totM ns)) := by unfold Hid totV; rw [E1.out]; rfl
      obtain ⟨s0, s1, _, _⟩ := hC.out
      generalize totC ns = NC at *
      generalize totM ns = NM at *
      clear hC EC
      go_wp2
      rw [E1.out, E2.out]
      exact bodyPost_ret (v := .tuple #[.agg #[.int .i64 NC, .int .i64 NM], .int .i64 0]) (by simp [results, Try.results23, go_sem, cR0, cR1]) rfl ⟨rfl, (KB.out.setCell (by simp <;> omega) _).setCell (by simp <;> omega) _⟩

end Go.Proofs.Ytikalkigmnipiaa
