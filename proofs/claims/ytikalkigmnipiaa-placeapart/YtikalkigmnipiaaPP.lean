/-
  The document's answers of place: free, Free.
-/
import Derived.Test.YtikalkigmnipiaaPO
namespace Go.Proofs.Ytikalkigmnipiaa
open Go.RowKit Go.Deep Go.Maps Go.Shelf
set_option linter.unusedVariables false
set_option linter.unusedSimpArgs false

section
variable {ops : Array Oper} {rest : List Oper} {o : Oper} {a : Act} {Q : Exit → Act → World → Prop}
/-- 'append(m, p...)' of numbers. -/
theorem cat_ownN (wr : World) (hg : o.guard = none) (s y : Operand) (hop : o.op = Op.call { callee := Callee.builtin Builtin.append, args := #[s, y], argTypes := #[28, 28] })
    (base n : Nat) (v : Value) (l : List Int) (hs : a.eval s = v) (hown : OwnN base wr v n l) (hb : base ≤ wr.heap.size) (ao : Option Addr) (m c : Nat) (p : List Int) (hx : a.eval y = .slice ao m c) (hp : HoldsN wr ao m c p) (b1 : (n + m) * 8 ≤ 140737488355328)
    (hK : ∀ v' w', OwnN base w' v' (n + m) (l ++ p) → Below base wr w' → wr.grownBy w' v.ownBlock → wpList Try.prog ops Q rest (a.put o.dst v') w') :
    wpList Try.prog ops Q (o :: rest) a wr :=
  cat_ownE 28 3 (.int .i64 0) 8 encN_len encN_one Try.underlying28 infoN rfl (by decide) wr hg s y hop base n v l hs hown hb ao m c p hx hp (by omega) b1 hK
end

/-- What leases of the form take of a node, piece by piece. -/
theorem taken_take {ns : List Nd} {a : Int} (hn : ndsB a ns = true) {n : Nd} (hm : n ∈ ns) {ls : List Lz} (hp : lesB ns [] ls = true) (j : Nat) : (taken n.id (ls.take j)).length ≤ 64 ∧ 0 ≤ usedM n.id (ls.take j) ∧ usedM n.id (ls.take j) ≤ n.me := by
  have h1 : lesB ns [] (ls.take j) = true := by
    have h := hp
    rw [← List.take_append_drop j ls, lesB_append, Bool.and_eq_true] at h
    exact h.1
  have hI := Inv.of hn hm _ (ls.take j) rfl h1
  obtain ⟨i, hi, rfl⟩ := List.getElem_of_mem hm
  have hN := (ndsB_iff.1 hn).1 i hi
  rw [da_eq hi] at hN
  have := free_count (n := ns[i].co.toNat) hI.nd (fun c hc => by have := hI.rng c hc; omega)
  exact ⟨by omega, hI.me0, hI.me1⟩

set_option maxRecDepth 100000 in
set_option maxHeartbeats 8000000 in
theorem rfree_any (ns : List Nd) (j : Nat) (qa : Option Addr) (ql qc : Nat) (l : List Le) (w : World) (hl : HoldsL w qa ql qc l) (hE : plE ns (l.map Le.z) = 0) (hj : j < ns.length) :
    Calls Try.prog 42 #[.agg #[.int .i64 (da ns j).id, .int .i64 (da ns j).co, .int .i64 (da ns j).me, .int .i64 (da ns j).inc, .int .i64 (da ns j).bt], .slice qa ql qc] w fun e w' => ∃ v, e = .returned (.tuple #[v, .int .i64 (frM ns (l.map Le.z) j)]) ∧ OwnN w.heap.size w' v (frL ns (l.map Le.z) j).length (frL ns (l.map Le.z) j) ∧ Below w.heap.size w w' := by
  obtain ⟨h64, hn, hp⟩ := plE_zero hE
  have TT := hid (fun k => taken_take hn (da_mem hj) hp k)
  have hN := ((ndsB_iff.1 hn).1 j hj).1
  have FL : Hid (frL ns (l.map Le.z) j = freeT (fun c => hasN (taken (da ns j).id (l.map Le.z)) c) (da ns j).co.toNat) := rfl
  have FM : Hid (frM ns (l.map Le.z) j = (da ns j).me - usedM (da ns j).id (l.map Le.z)) := rfl
  have HQ := hid hl
  have HQL := hid hl.1.1
  have qcap := hl.1.2.1
  have qcm := hl.1.2.2.1
  clear hl hE hn hp h64
  generalize da ns j = nd at *
  obtain ⟨n1, n2, n3, n4, n5⟩ := nd
  simp only at *
  have hn3 := hN.2.2
  unfold okp at hn3
  obtain ⟨N, rfl⟩ : ∃ n : Nat, n2 = n := ⟨n2.toNat, by omega⟩
  rw [Int.toNat_natCast] at FL
  have B0 : Hid (Below w.heap.size w (w.alloc (.cells #[.int .i64 n1, .int .i64 (N : Int), .int .i64 n3, .int .i64 n4, .int .i64 n5] 41))) := (Below.refl _ w).alloc (Nat.le_refl _) _
  have Y0 : Hid ((w.alloc (.cells #[.int .i64 n1, .int .i64 (N : Int), .int .i64 n3, .int .i64 n4, .int .i64 n5] 41)).cell? ⟨w.heap.size, 0, none⟩ = some (.int .i64 n1)) := by unfold Hid; simp [go_sem]
  have Y1 : Hid ((w.alloc (.cells #[.int .i64 n1, .int .i64 (N : Int), .int .i64 n3, .int .i64 n4, .int .i64 n5] 41)).cell? ⟨w.heap.size, 1, none⟩ = some (.int .i64 (N : Int))) := by unfold Hid; simp [go_sem]
  have hN64 : N ≤ 64 := by omega
  go_enter Try.func42, Try.ntmps42
  go_wp2_with fail
  generalize (w.alloc (.cells #[.int .i64 n1, .int .i64 (N : Int), .int .i64 n3, .int .i64 n4, .int .i64 n5] 41)) = w0 at *
  go_loopw [16, 6, 7] (fun i mm v wr => ∃ k : Nat, k ≤ ql ∧ i = .int .i64 (k : Int) ∧ mm = .int .i64 (n3 - usedM n1 ((l.map Le.z).take k)) ∧ Hid (OwnN w0.heap.size wr v (taken n1 ((l.map Le.z).take k)).length (taken n1 ((l.map Le.z).take k))) ∧ Hid (Below w0.heap.size w0 wr)) (fun i _ _ _ => ql - (intOf i).toNat)
  case atStart => exact ⟨0, by omega, rfl, by simp [usedM], OwnE.nil _ _ _ _ _, Below.refl _ _⟩
  case round =>
    obtain ⟨k, hk, rfl, rfl, ho, hB⟩ := hrel
    have KB := hid (B0.out.trans (hB.out.mono B0.out.size))
    have y0 := keepc hB.out Y0.out
    by_cases hlt : k < ql
    · have hlt' : k < l.length := by rw [HQL.out]; exact hlt
      obtain ⟨b, off, rfl, hbl, Rw⟩ := HQ.out.1.rowL (by omega)
      obtain ⟨d1, d2, d3, d4, d5, d6, d7, d8⟩ := Rw k hlt
      have c1 := keepc KB.out d1
      have c2 := keepc KB.out d2
      have c3 := keepc KB.out d3
      have c4 := keepc KB.out d4
      have c5 := keepc KB.out d5
      have c6 := keepc KB.out d6
      have c7 := keepc KB.out d7
      have c8 := keepc KB.out d8
      have HC := hid ((HQ.out.2 _ (la_mem hlt')).below KB.out)
      have TN := hid (take_la hlt')
      have T1 := TT.out (k + 1)
      have T0 := TT.out k
      rw [TN.out, taken_one, usedM_one] at T1
      have ka : (0 : Int) ≤ (k : Int) := by omega
      have kb : (k : Int) < (ql : Int) := by omega
      clear d1 d2 d3 d4 d5 d6 d7 d8 Rw
      generalize hx : la l k = x at *
      clear hx
      obtain ⟨x1, x2, x3, sa, sl, sc, x5, x6, x7, x8, co⟩ := x
      have BA : Hid (Below wr.heap.size wr (wr.alloc (.cells #[.int .i64 x1, .int .i64 x2, .int .i64 x3, .slice sa sl sc, .int .i64 x5, .int .i64 x6, .int .i64 x7, .bool x8] 43))) := (Below.refl _ wr).alloc (Nat.le_refl _) _
      have BK : Hid (Below w0.heap.size w0 (wr.alloc (.cells #[.int .i64 x1, .int .i64 x2, .int .i64 x3, .slice sa sl sc, .int .i64 x5, .int .i64 x6, .int .i64 x7, .bool x8] 43))) := hB.out.alloc hB.out.size _
      have z0 := keepc BA.out y0
      by_cases g : x3 = n1
      · have t : (x3 == n1) = true := by simpa using g
        have g' : (Le.z ⟨x1, x2, x3, sa, sl, sc, x5, x6, x7, x8, co⟩).no = n1 := g
        rw [if_pos g', if_pos g', List.length_append] at T1
        have e5 : (Le.z ⟨x1, x2, x3, sa, sl, sc, x5, x6, x7, x8, co⟩).me = x5 := rfl
        have e6 : (Le.z ⟨x1, x2, x3, sa, sl, sc, x5, x6, x7, x8, co⟩).co = co := rfl
        rw [e5, e6] at T1
        have hsl : co.length = sl := HC.out.1
        have hw : IntKind.i64.wrap (n3 - usedM n1 ((l.map Le.z).take k) - x5) = n3 - usedM n1 ((l.map Le.z).take k) - x5 := by rw [IntKind.wrap_i64]; omega
        have MS : Hid (Value.int .i64 (n3 - usedM n1 ((l.map Le.z).take k) - x5) = .int .i64 (n3 - usedM n1 ((l.map Le.z).take (k + 1)))) := by unfold Hid; rw [TN.out, usedM_one, if_pos g', e5]; congr 1; omega
        have TS : Hid (taken n1 ((l.map Le.z).take (k + 1)) = taken n1 ((l.map Le.z).take k) ++ co) := by unfold Hid; rw [TN.out, taken_one, if_pos g']; rfl
        have O2 := hid (ho.out.below BA.out)
        have HC2 := hid (HC.out.below BA.out)
        clear TN g g' e5 e6 ho
        generalize hMJ : n3 - usedM n1 ((l.map Le.z).take k) = MJ at *
        generalize hTK : taken n1 ((l.map Le.z).take k) = TK at *
        clear hMJ hTK
        go_wp2_with (at_builtin; refine cat_ownN _ rfl (.tmp 29) (.tmp 31) rfl w0.heap.size _ u7 _ rfl O2.out BK.out.size sa sl sc co rfl HC2.out (by omega) ?_)
        intro v6 w6 o6 b6 g6
        have O6 : Hid (OwnN w0.heap.size w6 v6 (taken n1 ((l.map Le.z).take (k + 1))).length (taken n1 ((l.map Le.z).take (k + 1)))) := by unfold Hid; rw [TS.out, List.length_append, hsl]; exact o6
        have B6 := hid (BK.out.trans b6)
        clear o6 b6 g6 O2 HC2 HC
        go_wp2
        go_roundw
        case rel => exact ⟨k + 1, by omega, by go_num, MS.out, O6, B6⟩
        case measure => simp [intOf]; omega
      · have t : (x3 == n1) = false := by simpa using g
        have g' : ¬ (Le.z ⟨x1, x2, x3, sa, sl, sc, x5, x6, x7, x8, co⟩).no = n1 := g
        have MS : Hid (n3 - usedM n1 ((l.map Le.z).take k) = n3 - usedM n1 ((l.map Le.z).take (k + 1))) := by unfold Hid; rw [TN.out, usedM_one, if_neg g', Int.add_zero]
        have TS : Hid (taken n1 ((l.map Le.z).take (k + 1)) = taken n1 ((l.map Le.z).take k)) := by unfold Hid; rw [TN.out, taken_one, if_neg g', List.append_nil]
        have O2 := hid (ho.out.below BA.out)
        rw [← TS.out] at O2
        clear TN g g' ho T1 T0 HC
        rw [MS.out]
        generalize hMJ : n3 - usedM n1 ((l.map Le.z).take (k + 1)) = MJ at *
        have HMJ := hid hMJ
        clear MS hMJ
        go_wp2
        go_roundw
        case rel => exact ⟨k + 1, by omega, by go_num, by rw [HMJ.out], O2, BK⟩
        case measure => simp [intOf]; omega
    · have tk : (l.map Le.z).take k = l.map Le.z := List.take_of_length_le (by rw [List.length_map, HQL.out]; omega)
      have TL := (TT.out k).1
      simp only [tk] at ho TL ⊢
      have y1 := keepc hB.out Y1.out
      obtain ⟨ta, tc, rfl⟩ := ho.out.form
      have HT := hid (ho.out.holds encN_len)
      rw [← FM.out]
      generalize hFMv : frM ns (l.map Le.z) j = FMv at *
      have HFM := hid hFMv
      clear hFMv
      generalize taken n1 (l.map Le.z) = TKL at *
      clear ho FM TT hB HQ
      rename World => w1
      go_wp2_with fail
      go_loopw [36, 10] (fun i v wr => ∃ c : Nat, c ≤ N ∧ i = .int .i64 (c : Int) ∧ Hid (OwnN w1.heap.size wr v (freeT (fun c => hasN TKL c) c).length (freeT (fun c => hasN TKL c) c)) ∧ Hid (Below w1.heap.size w1 wr)) (fun i _ _ => N - (intOf i).toNat)
      case atStart => exact ⟨0, by omega, rfl, OwnE.nil _ _ _ _ _, Below.refl _ _⟩
      case round =>
        obtain ⟨c, hc, rfl, ho, hB⟩ := hrel
        by_cases hlt2 : c < N
        · have HS := hid (hasN_any ta TKL.length tc TKL (c : Int) wr (HT.out.below hB.out) (by omega))
          have FS := hid (freeT_succ (fun c => hasN TKL (c : Int)) c)
          have FLn := freeT_le (fun c => hasN TKL (c : Int)) c
          cases hb : hasN TKL (c : Int)
          · rw [hb] at HS
            have FS' : Hid (freeT (fun c => hasN TKL (c : Int)) (c + 1) = freeT (fun c => hasN TKL (c : Int)) c ++ [(c : Int)]) := by unfold Hid; rw [FS.out]; simp [hb]
            clear hb FS
            generalize hF : freeT (fun c => hasN TKL (c : Int)) c = FR at *
            clear hF
            go_wp2_with fail
            refine HS.out.mono ?_
            rintro e w5 ⟨rfl, rfl⟩
            go_wp2_with (at_builtin; refine push_ownN wr (c : Int) rfl (.tmp 43) (.tmp 45) rfl w1.heap.size _ u10 _ rfl ho.out hB.out.size rfl (by omega) ?_)
            intro v6 w6 o6 b6 g6
            have O6 : Hid (OwnN w1.heap.size w6 v6 (freeT (fun c => hasN TKL (c : Int)) (c + 1)).length (freeT (fun c => hasN TKL (c : Int)) (c + 1))) := by unfold Hid; rw [FS'.out, List.length_append]; exact o6
            have B6 := hid (hB.out.trans b6)
            clear o6 b6 g6 ho
            go_wp2
            go_roundw
            case rel => exact ⟨c + 1, by omega, by go_num, O6, B6⟩
            case measure => simp [intOf]; omega
          · rw [hb] at HS
            have FS' : Hid (freeT (fun c => hasN TKL (c : Int)) (c + 1) = freeT (fun c => hasN TKL (c : Int)) c) := by unfold Hid; rw [FS.out]; simp [hb]
            rw [← FS'.out] at ho
            clear hb FS
            go_wp2_with fail
            refine HS.out.mono ?_
            rintro e w5 ⟨rfl, rfl⟩
            go_wp2
            go_roundw
            case rel => exact ⟨c + 1, by omega, by go_num, ho, hB⟩
            case measure => simp [intOf]; omega
        · obtain rfl : c = N := by omega
          have K2 := hid (KB.out.trans (hB.out.mono KB.out.size))
          rw [← FL.out] at ho
          have HO : Hid (OwnN w.heap.size wr u10 (frL ns (l.map Le.z) j).length (frL ns (l.map Le.z) j)) := ho.out.weaken KB.out.size
          clear ho
          go_wp2
          go_ret2
          exact ⟨_, retV HFM.out.symm, HO.out, K2.out⟩

set_option maxRecDepth 100000 in
set_option maxHeartbeats 4000000 in
theorem rpfree_any (a : Option Addr) (len cap : Nat) (ns : List Nd) (qa : Option Addr) (ql qc : Nat) (l : List Le) (id : Int) (w : World) (h : HoldsD w a len cap ns) (hl : HoldsL w qa ql qc l) :
    Calls Try.prog 22 #[.slice a len cap, .slice qa ql qc, .int .i64 id] w fun e w' => ∃ b c, e = .returned (.tuple #[.slice b (freeL ns (l.map Le.z) id).length c, .int .i64 (freeM ns (l.map Le.z) id), .int .i64 (freeE ns (l.map Le.z) id)]) ∧ HoldsN w' b (freeL ns (l.map Le.z) id).length c (freeL ns (l.map Le.z) id) ∧ Below w.heap.size w w' := by
  have CK := hid (rplcheck_any a len cap ns qa ql qc l w h hl)
  have ND := hid (fun W (hW : Below w.heap.size w W) => rnode_any a len cap ns id W (h.below hW))
  have FR := hid (fun W (hW : Below w.heap.size w W) hE hj => rfree_any ns (ndI ns id) qa ql qc l W (hl.below hW) hE hj)
  clear h hl
  generalize l.map Le.z = ls at *
  have nilH : Hid (∀ W, HoldsN W none 0 0 []) := fun W => ⟨rfl, by omega, by omega, fun _ => ⟨rfl, rfl⟩, fun h => absurd h (by omega)⟩
  by_cases hE : plE ns ls = 0
  case neg =>
    have t : (plE ns ls != 0) = true := by simpa using hE
    have t' : (plE ns ls == 0) = false := by simpa using hE
    have E1 : freeE ns ls id = plE ns ls := by unfold freeE; rw [if_neg hE]
    have E2 : freeL ns ls id = [] := by unfold freeL; rw [E1, if_neg hE]
    have E3 : freeM ns ls id = 0 := by unfold freeM; rw [E1, if_neg hE]
    rw [E1, E2, E3]
    clear hE E1 E2 E3 FR
    generalize plE ns ls = PE at *
    generalize da ns (ndI ns id) = nd at *
    generalize decide (ndI ns id < ns.length) = OKB at *
    obtain ⟨n1, n2, n3, n4, n5⟩ := nd
    simp only at *
    go_enter Try.func22, Try.ntmps22
    go_wp2_with fail
    refine CK.out.mono ?_
    rintro e w1 ⟨rfl, b1⟩
    have B1 := hid b1
    clear b1
    go_wp2_with fail
    refine (ND.out _ B1.out).mono ?_
    rintro e w2 ⟨rfl, b2⟩
    have B2 := hid (B1.out.trans (b2.mono B1.out.size))
    have B3 : Hid (Below w.heap.size w (w2.alloc (.cells #[.int .i64 n1, .int .i64 n2, .int .i64 n3, .int .i64 n4, .int .i64 n5] 41))) := B2.out.alloc B2.out.size _
    clear b2
    go_wp2
    go_ret3
    exact ⟨none, 0, rfl, nilH.out _, B3.out⟩
  rw [hE] at CK
  by_cases hJ : ndI ns id < ns.length
  case neg =>
    have E1 : freeE ns ls id = 8 := by unfold freeE; rw [if_pos hE, if_neg hJ]
    have E2 : freeL ns ls id = [] := by unfold freeL; rw [E1]; rfl
    have E3 : freeM ns ls id = 0 := by unfold freeM; rw [E1]; rfl
    rw [E1, E2, E3]
    rw [decide_eq_false hJ] at ND
    clear hE E1 E2 E3 FR hJ
    generalize da ns (ndI ns id) = nd at *
    obtain ⟨n1, n2, n3, n4, n5⟩ := nd
    simp only at *
    go_enter Try.func22, Try.ntmps22
    go_wp2_with fail
    refine CK.out.mono ?_
    rintro e w1 ⟨rfl, b1⟩
    have B1 := hid b1
    clear b1
    go_wp2_with fail
    refine (ND.out _ B1.out).mono ?_
    rintro e w2 ⟨rfl, b2⟩
    have B2 := hid (B1.out.trans (b2.mono B1.out.size))
    have B3 : Hid (Below w.heap.size w (w2.alloc (.cells #[.int .i64 n1, .int .i64 n2, .int .i64 n3, .int .i64 n4, .int .i64 n5] 41))) := B2.out.alloc B2.out.size _
    clear b2
    go_wp2
    go_ret3
    exact ⟨none, 0, rfl, nilH.out _, B3.out⟩
  have E1 : freeE ns ls id = 0 := by unfold freeE; rw [if_pos hE, if_pos hJ]
  have E2 : freeL ns ls id = frL ns ls (ndI ns id) := by unfold freeL; rw [E1, if_pos rfl]
  have E3 : freeM ns ls id = frM ns ls (ndI ns id) := by unfold freeM; rw [E1, if_pos rfl]
  rw [E1, E2, E3]
  rw [decide_eq_true hJ] at ND
  have FR' := hid (fun W hW => FR.out W hW hE hJ)
  clear hE E1 E2 E3 FR hJ
  generalize frL ns ls (ndI ns id) = FL at *
  generalize frM ns ls (ndI ns id) = FM at *
  generalize da ns (ndI ns id) = nd at *
  obtain ⟨n1, n2, n3, n4, n5⟩ := nd
  simp only at *
  go_enter Try.func22, Try.ntmps22
  go_wp2_with fail
  refine CK.out.mono ?_
  rintro e w1 ⟨rfl, b1⟩
  have B1 := hid b1
  clear b1
  go_wp2_with fail
  refine (ND.out _ B1.out).mono ?_
  rintro e w2 ⟨rfl, b2⟩
  have B2 := hid (B1.out.trans (b2.mono B1.out.size))
  have B3 : Hid (Below w.heap.size w (w2.alloc (.cells #[.int .i64 n1, .int .i64 n2, .int .i64 n3, .int .i64 n4, .int .i64 n5] 41))) := B2.out.alloc B2.out.size _
  clear b2
  go_wp2_with fail
  refine (FR'.out _ B3.out).mono ?_
  rintro e w3 ⟨v3, rfl, o3, b3⟩
  have B4 := hid (B3.out.trans (b3.mono B3.out.size))
  obtain ⟨ta, tc, rfl⟩ := o3.form
  have HO := hid (o3.holds encN_len)
  clear o3 b3
  go_wp2
  go_ret3
  exact ⟨_, _, rfl, HO.out, B4.out⟩

end Go.Proofs.Ytikalkigmnipiaa
