/-
  Contracts of place: read.
-/
import Derived.Test.YtikalkigmnipiaaPE
import Derived.Deep.RegionHeld
namespace Go.Proofs.Ytikalkigmnipiaa
open Go.RowKit Go.Deep Go.Maps Go.Shelf
set_option linter.unusedVariables false
set_option linter.unusedSimpArgs false

theorem drewc {w : World} {a : Addr} {v : Value} (h : w.cell? a = some v) : w.drew.cell? a = some v := h

/-- The rooms, while they are written. -/
def Rooms (N : Nat) (w : World) (a : Option Addr) (len cap : Nat) (l : List Rm) : Prop := HoldsR w a len cap l ∧ ((a = none ∧ len = 0) ∨ ∃ g, a = some ⟨g, 0, none⟩ ∧ N ≤ g ∧ g < w.heap.size ∧ ∀ j, w.frozen? ⟨g, j, none⟩ = false)
theorem OwnE.rooms {N : Nat} {w : World} {v : Value} {len : Nat} {l : List Rm} (h : OwnR N w v len l) : ∃ a cap, v = .slice a len cap ∧ Rooms N w a len cap l := by
  obtain ⟨a, cap, rfl⟩ := h.form
  refine ⟨a, cap, rfl, h.holds Rm.cs_len, ?_⟩
  rcases h.2.2 with ⟨hv, hn⟩ | ⟨g, cap', cur, hv, hg, hh, hc, hm, hs, ht⟩
  · simp at hv; exact .inl ⟨hv.1, hn⟩
  · simp at hv
    obtain ⟨rfl, rfl⟩ := hv
    exact .inr ⟨g, rfl, hg, (Array.getElem?_eq_some_iff.1 hh).1, fun j => by simp [World.frozen?, hh]⟩
theorem Rooms.below {N : Nat} {w w' : World} {a : Option Addr} {len cap : Nat} {l : List Rm} (h : Rooms N w a len cap l) (hb : Below w.heap.size w w') : Rooms N w' a len cap l := by
  refine ⟨h.1.below hb, ?_⟩
  rcases h.2 with h | ⟨g, e, h1, h2, h3⟩
  · exact .inl h
  · exact .inr ⟨g, e, h1, Nat.lt_of_lt_of_le h2 hb.size, fun j => (hb.frozen (p := ⟨g, j, none⟩) h2).trans (h3 j)⟩

theorem ra_map (ns : List Nd) (ls : List Lz) {i : Nat} (h : i < ns.length) : ra (ns.map (rmA ls)) i = rmA ls (da ns i) := by
  unfold ra
  rw [List.getElem?_map, da_get h]
  rfl
theorem rise_rooms {ns : List Nd} {a : Int} (hn : ndsB a ns = true) (ls : List Lz) : RiseR (ns.map (rmA ls)) := by
  intro i j hij hj
  have hj' : j < ns.length := by simpa using hj
  rw [ra_map ns ls hj', ra_map ns ls (by omega)]
  exact (ndsB_iff.1 hn).2 i j hij hj'
theorem hasR_map (ns : List Nd) (ls : List Lz) (id : Int) : hasR (ns.map (rmA ls)) id = decide (ndI ns id < ns.length) := by
  unfold hasR
  rw [List.any_map, Bool.eq_iff_iff, List.any_eq_true, decide_eq_true_eq]
  constructor
  · rintro ⟨n, hn, e⟩
    have e : n.id = id := of_decide_eq_true e
    rcases Nat.lt_or_ge (ndI ns id) ns.length with h | h
    · exact h
    · obtain ⟨i, hi, rfl⟩ := List.getElem_of_mem hn
      have := ndI_before (ns := ns) (id := id) (k := i) (by omega)
      rw [da_eq hi] at this
      exact absurd e this
  · intro h
    exact ⟨da ns (ndI ns id), da_mem h, decide_eq_true (ndI_id h)⟩
/-- What is found. -/
theorem at_found {ns : List Nd} {a : Int} (hn : ndsB a ns = true) {ls : List Lz} {id : Int} {k : Nat} (h : atR (ns.map (rmA ls)) id k) (hh : hasR (ns.map (rmA ls)) id = true) : k < ns.length ∧ (da ns k).id = id := by
  rw [atR_has (rise_rooms hn ls) h, Bool.and_eq_true, decide_eq_true_eq, decide_eq_true_eq] at hh
  have hk : k < ns.length := by simpa using hh.1
  rw [ra_map ns ls hk] at hh
  exact ⟨hk, hh.2⟩
theorem fr_ok {ns : List Nd} {a : Int} (hn : ndsB a ns = true) {ls : List Lz} (hp : lesB ns [] ls = true) {j : Nat} (hj : j < ns.length) : okp (rmA ls (da ns j)).fc ∧ okp (rmA ls (da ns j)).fm := by
  have hf := fc_free hn hp hj
  have hI := Inv.of hn (da_mem hj) _ ls rfl hp
  have hN := (ndsB_iff.1 hn).1 j hj
  have hl := freeT_le (rmA ls (da ns j)).tk (da ns j).co.toNat
  refine ⟨?_, ?_⟩
  · rw [hf]; unfold okp; omega
  · have e : (rmA ls (da ns j)).fm = (da ns j).me - usedM (da ns j).id ls := rfl
    have := hI.me0
    have := hI.me1
    have h3 := hN.1.2.2
    unfold okp at h3 ⊢
    rw [e]
    omega
theorem leB_none {ns : List Nd} {ls : List Lz} {x : Lz} (h : hasR (ns.map (rmA ls)) x.no = false) : leB ns ls x = false := by
  rw [hasR_map] at h
  unfold leB
  rw [h]; rfl

/-- What read answers. -/
def AnsR (N : Nat) (w : World) (v : Value) (len : Nat) (E : Int) (l : List Rm) : Prop := (E ≠ 0 ∧ v = .slice none 0 0) ∨ (E = 0 ∧ ∃ a cap, v = .slice a len cap ∧ Rooms N w a len cap l)
theorem retV {v : Value} {a b : Int} (h : a = b) : Ending.returned (.tuple #[v, .int .i64 a]) = .returned (.tuple #[v, .int .i64 b]) := by rw [h]
theorem drop_la {l : List Le} {k : Nat} (h : k < l.length) : (l.map Le.z).drop k = (la l k).z :: (l.map Le.z).drop (k + 1) := by
  rw [List.drop_eq_getElem_cons (by simpa using h), List.getElem_map]
  unfold la
  rw [List.getElem?_eq_getElem h]
  rfl
theorem take_la {l : List Le} {k : Nat} (h : k < l.length) : (l.map Le.z).take (k + 1) = (l.map Le.z).take k ++ [(la l k).z] := by rw [List.take_add_one, List.getElem?_map, la_get h]; rfl

set_option maxRecDepth 100000 in
set_option maxHeartbeats 8000000 in
theorem pread_any (a : Option Addr) (len cap : Nat) (ns : List Nd) (qa : Option Addr) (ql qc : Nat) (l : List Le) (w : World) (h : HoldsD w a len cap ns) (hl : HoldsL w qa ql qc l) :
    Calls Try.prog 36 #[.slice a len cap, .slice qa ql qc] w fun e w' => ∃ v, e = .returned (.tuple #[v, .int .i64 (plE ns (l.map Le.z))]) ∧ AnsR w.heap.size w' v len (plE ns (l.map Le.z)) (ns.map (rmA (l.map Le.z))) ∧ Below w.heap.size w w' := by
  have HH := hid h
  have HL := hid h.1
  have hcap := h.2.1
  have hcm := h.2.2.1
  have HQ := hid hl
  have HQL := hid hl.1.1
  have qcap := hl.1.2.1
  have qcm := hl.1.2.2.1
  clear h hl
  by_cases g1 : 64 < len
  · have t : decide ((64 : Int) < (len : Int)) = true := by simp; omega
    have E : Hid (plE ns (l.map Le.z) = 3) := by unfold Hid plE; rw [HL.out, if_pos g1]
    clear g1
    go_enter Try.func36, Try.ntmps36
    go_wp2
    go_ret2
    exact ⟨_, retV E.out.symm, .inl ⟨by rw [E.out]; decide, rfl⟩, Below.refl _ _⟩
  have t : decide ((64 : Int) < (len : Int)) = false := by simp; omega
  have OP := hid (open_any a len cap ns w HH.out (by omega))
  have hlen : len ≤ 64 := by omega
  cases g2 : ndsB (-1) ns
  · have E : Hid (plE ns (l.map Le.z) = 4) := by unfold Hid plE formP; rw [HL.out, if_neg g1, g2]; rfl
    rw [g2] at OP
    clear g1 g2
    go_enter Try.func36, Try.ntmps36
    go_wp2_with fail
    refine OP.out.mono ?_
    rintro e w1 ⟨v1, rfl, o1, b1⟩
    clear o1
    go_wp2
    go_ret2
    exact ⟨_, retV E.out.symm, .inl ⟨by rw [E.out]; decide, rfl⟩, b1⟩
  have E : Hid (plE ns (l.map Le.z) = if lesB ns [] (l.map Le.z) = true then 0 else 4) := by unfold Hid plE formP; rw [HL.out, if_neg g1, g2, Bool.true_and]
  have G2 := hid g2
  rw [g2] at OP
  clear g1 g2
  go_enter Try.func36, Try.ntmps36
  go_wp2_with fail
  refine OP.out.mono ?_
  rintro e w1 ⟨v1, rfl, o1, b1⟩
  have R1 : ∃ a cap, v1 = .slice a len cap ∧ Rooms w.heap.size w1 a len cap (ns.map (rmA [])) := by
    rcases o1 with ⟨h, _⟩ | ⟨_, h⟩
    · cases h
    · have e : ns.map (rmA []) = ns.map rm0 := List.map_congr_left (fun n _ => rmA_nil n)
      rw [e]; exact h.rooms
  obtain ⟨ra, rc, rfl, hr⟩ := R1
  have R1 := hid hr
  have B1 := hid b1
  clear hr b1 o1 OP
  go_wp2_with fail
  go_loopw [24] (fun i wr => ∃ k : Nat, k ≤ ql ∧ i = .int .i64 (k : Int) ∧ Hid (lesB ns [] (l.map Le.z) = lesB ns ((l.map Le.z).take k) ((l.map Le.z).drop k)) ∧ Hid (lesB ns [] ((l.map Le.z).take k) = true) ∧ Hid (Rooms w.heap.size wr ra len rc (ns.map (rmA ((l.map Le.z).take k)))) ∧ Hid (Below w.heap.size w wr)) (fun i _ => ql - (intOf i).toNat)
  case atStart => exact ⟨0, by omega, rfl, rfl, rfl, R1, B1⟩
  case round =>
    obtain ⟨k, hk, rfl, hgo, hpre, hR, hB⟩ := hrel
    clear R1 B1
    by_cases hlt : k < ql
    · have hlt' : k < l.length := by rw [HQL.out]; exact hlt
      obtain ⟨b, off, rfl, hbl, Rw⟩ := HQ.out.1.rowL (by omega)
      obtain ⟨d1, d2, d3, d4, d5, d6, d7, d8⟩ := Rw k hlt
      have c1 := keepc hB.out d1
      have c2 := keepc hB.out d2
      have c3 := keepc hB.out d3
      have c4 := keepc hB.out d4
      have c5 := keepc hB.out d5
      have c6 := keepc hB.out d6
      have c7 := keepc hB.out d7
      have c8 := keepc hB.out d8
      have HC := hid (HQ.out.2 _ (la_mem hlt'))
      have NX : Hid (lesB ns [] (l.map Le.z) = (leB ns ((l.map Le.z).take k) (la l k).z && lesB ns ((l.map Le.z).take k ++ [(la l k).z]) ((l.map Le.z).drop (k + 1)))) := by unfold Hid; rw [hgo.out, drop_la hlt']; rfl
      have TN := hid (take_la hlt')
      have ka : (0 : Int) ≤ (k : Int) := by omega
      have kb : (k : Int) < (ql : Int) := by omega
      clear d1 d2 d3 d4 d5 d6 d7 d8 Rw hgo
      generalize hx : la l k = x at *
      clear hx
      generalize (l.map Le.z).take k = pre at *
      obtain ⟨x1, x2, x3, sa, sl, sc, x5, x6, x7, x8, co⟩ := x
      have BA : Hid (Below wr.heap.size wr (wr.alloc (.cells #[.int .i64 x1, .int .i64 x2, .int .i64 x3, .slice sa sl sc, .int .i64 x5, .int .i64 x6, .int .i64 x7, .bool x8] 43))) := (Below.refl _ wr).alloc (Nat.le_refl _) _
      have SK := hid (fun W (hW : Below wr.heap.size wr W) => seek_any ra len rc (ns.map (rmA pre)) x3 W (hR.out.1.below hW) hlen (rise_rooms G2.out pre))
      cases hf : hasR (ns.map (rmA pre)) x3
      · have NO : Hid (plE ns (l.map Le.z) = 4) := by unfold Hid; rw [E.out, NX.out, leB_none hf]; rfl
        rw [hf] at SK
        clear NX TN hf
        go_wp2_with fail
        refine (SK.out _ BA.out).mono ?_
        rintro e w2 ⟨j, rfl, hat, b2⟩
        have B2 := hid (hB.out.trans ((BA.out.trans (b2.mono BA.out.size)).mono hB.out.size))
        clear hat b2 SK c1 c2 c3 c4 c5 c6 c7 c8 BA
        go_upto_region 10 with fail
        refine wp_region_held_drew (S := (fun w' => True)) (by kernel_rfl) trivial (fun hHeld => ?_)
        refine wpAnyH_take (i := 0) (v := .bool false) rfl (by kernel_rfl) (by kernel_rfl) (by kernel_rfl) (fun _ _ _ h => h) (Or.inl ⟨by rfl, ?_⟩) (by assumption) ?_
        · (intro w hSw; (try dsimp only at hSw); go_simp)
        (try simp only [Act.put, List.getElem_toArray, List.getElem_cons_succ, List.getElem_cons_zero, List.setIfInBounds_toArray, List.set_cons_zero, List.set_cons_succ])
        refine wpAnyH_take (i := 1) (v := .bool true) rfl (by kernel_rfl) (by kernel_rfl) (by kernel_rfl) (fun _ _ _ h => h) (Or.inl ⟨by rfl, ?_⟩) (by assumption) ?_
        · (intro w hSw; (try dsimp only at hSw); go_simp)
        (try simp only [Act.put, List.getElem_toArray, List.getElem_cons_succ, List.getElem_cons_zero, List.setIfInBounds_toArray, List.set_cons_zero, List.set_cons_succ])
        refine wpAnyH_take (i := 2) (v := .bool true) rfl (by kernel_rfl) (by kernel_rfl) (by kernel_rfl) (fun _ _ _ h => h) (Or.inl ⟨by rfl, ?_⟩) (by assumption) ?_
        · (intro w hSw; (try dsimp only at hSw); go_simp)
        (try simp only [Act.put, List.getElem_toArray, List.getElem_cons_succ, List.getElem_cons_zero, List.setIfInBounds_toArray, List.set_cons_zero, List.set_cons_succ])
        refine wpAnyH_take (i := 3) (v := undef) rfl (by kernel_rfl) (by kernel_rfl) (by kernel_rfl) (fun _ _ _ h => h) (Or.inr ⟨by rfl, rfl⟩) (by assumption) ?_
        (try simp only [Act.put, List.getElem_toArray, List.getElem_cons_succ, List.getElem_cons_zero, List.setIfInBounds_toArray, List.set_cons_zero, List.set_cons_succ])
        refine wpAnyH_take (i := 4) (v := undef) rfl (by kernel_rfl) (by kernel_rfl) (by kernel_rfl) (fun _ _ _ h => h) (Or.inr ⟨by rfl, rfl⟩) (by assumption) ?_
        (try simp only [Act.put, List.getElem_toArray, List.getElem_cons_succ, List.getElem_cons_zero, List.setIfInBounds_toArray, List.set_cons_zero, List.set_cons_succ])
        refine wpAnyH_take (i := 5) (v := undef) rfl (by kernel_rfl) (by kernel_rfl) (by kernel_rfl) (fun _ _ _ h => h) (Or.inr ⟨by rfl, rfl⟩) (by assumption) ?_
        (try simp only [Act.put, List.getElem_toArray, List.getElem_cons_succ, List.getElem_cons_zero, List.setIfInBounds_toArray, List.set_cons_zero, List.set_cons_succ])
        refine wpAnyH_take (i := 6) (v := undef) rfl (by kernel_rfl) (by kernel_rfl) (by kernel_rfl) (fun _ _ _ h => h) (Or.inr ⟨by rfl, rfl⟩) (by assumption) ?_
        (try simp only [Act.put, List.getElem_toArray, List.getElem_cons_succ, List.getElem_cons_zero, List.setIfInBounds_toArray, List.set_cons_zero, List.set_cons_succ])
        refine wpAnyH_take (i := 7) (v := undef) rfl (by kernel_rfl) (by kernel_rfl) (by kernel_rfl) (fun _ _ _ h => h) (Or.inr ⟨by rfl, rfl⟩) (by assumption) ?_
        (try simp only [Act.put, List.getElem_toArray, List.getElem_cons_succ, List.getElem_cons_zero, List.setIfInBounds_toArray, List.set_cons_zero, List.set_cons_succ])
        refine wpAnyH_take (i := 8) (v := undef) rfl (by kernel_rfl) (by kernel_rfl) (by kernel_rfl) (fun _ _ _ h => h) (Or.inr ⟨by rfl, rfl⟩) (by assumption) ?_
        (try simp only [Act.put, List.getElem_toArray, List.getElem_cons_succ, List.getElem_cons_zero, List.setIfInBounds_toArray, List.set_cons_zero, List.set_cons_succ])
        refine wpAnyH_take (i := 9) (v := .bool true) rfl (by kernel_rfl) (by kernel_rfl) (by kernel_rfl) (fun _ _ _ h => h) (Or.inl ⟨by rfl, ?_⟩) (by assumption) ?_
        · (intro w hSw; (try dsimp only at hSw); go_simp)
        (try simp only [Act.put, List.getElem_toArray, List.getElem_cons_succ, List.getElem_cons_zero, List.setIfInBounds_toArray, List.set_cons_zero, List.set_cons_succ])
        refine wpAnyH_done (by kernel_rfl) ?_ _
        clear hHeld 
        go_wp2
        go_ret2
        exact ⟨_, retV NO.out.symm, .inl ⟨by rw [NO.out]; decide, rfl⟩, below_drewN B2.out _⟩
      · have SKT := hid (fun W hW => (SK.out W hW))
        rw [hf] at SKT
        have M0 : (wr.alloc (.cells #[.int .i64 x1, .int .i64 x2, .int .i64 x3, .slice sa sl sc, .int .i64 x5, .int .i64 x6, .int .i64 x7, .bool x8] 43)).cell? ⟨wr.heap.size, 0, none⟩ = some (.int .i64 x1) := by simp [go_sem]
        have M1 : (wr.alloc (.cells #[.int .i64 x1, .int .i64 x2, .int .i64 x3, .slice sa sl sc, .int .i64 x5, .int .i64 x6, .int .i64 x7, .bool x8] 43)).cell? ⟨wr.heap.size, 1, none⟩ = some (.int .i64 x2) := by simp [go_sem]
        have M2 : (wr.alloc (.cells #[.int .i64 x1, .int .i64 x2, .int .i64 x3, .slice sa sl sc, .int .i64 x5, .int .i64 x6, .int .i64 x7, .bool x8] 43)).cell? ⟨wr.heap.size, 2, none⟩ = some (.int .i64 x3) := by simp [go_sem]
        have M3 : (wr.alloc (.cells #[.int .i64 x1, .int .i64 x2, .int .i64 x3, .slice sa sl sc, .int .i64 x5, .int .i64 x6, .int .i64 x7, .bool x8] 43)).cell? ⟨wr.heap.size, 3, none⟩ = some (.slice sa sl sc) := by simp [go_sem]
        have M4 : (wr.alloc (.cells #[.int .i64 x1, .int .i64 x2, .int .i64 x3, .slice sa sl sc, .int .i64 x5, .int .i64 x6, .int .i64 x7, .bool x8] 43)).cell? ⟨wr.heap.size, 4, none⟩ = some (.int .i64 x5) := by simp [go_sem]
        have M5 : (wr.alloc (.cells #[.int .i64 x1, .int .i64 x2, .int .i64 x3, .slice sa sl sc, .int .i64 x5, .int .i64 x6, .int .i64 x7, .bool x8] 43)).cell? ⟨wr.heap.size, 5, none⟩ = some (.int .i64 x6) := by simp [go_sem]
        have M6 : (wr.alloc (.cells #[.int .i64 x1, .int .i64 x2, .int .i64 x3, .slice sa sl sc, .int .i64 x5, .int .i64 x6, .int .i64 x7, .bool x8] 43)).cell? ⟨wr.heap.size, 6, none⟩ = some (.int .i64 x7) := by simp [go_sem]
        have M7 : (wr.alloc (.cells #[.int .i64 x1, .int .i64 x2, .int .i64 x3, .slice sa sl sc, .int .i64 x5, .int .i64 x6, .int .i64 x7, .bool x8] 43)).cell? ⟨wr.heap.size, 7, none⟩ = some (.bool x8) := by simp [go_sem]
        have MM := hid (And.intro M0 (And.intro M1 (And.intro M2 (And.intro M3 (And.intro M4 (And.intro M5 (And.intro M6 M7)))))))
        clear M0 M1 M2 M3 M4 M5 M6 M7 SK
        have HF := hid hf
        clear hf
        go_wp2_with fail
        refine (SKT.out _ BA.out).mono ?_
        rintro e w2 ⟨j, rfl, hat, b2⟩
        obtain ⟨hj, hid3⟩ := at_found G2.out hat HF.out
        obtain ⟨m0, m1, m2, m3, m4, m5, m6, m7⟩ := MM.out
        replace m0 := keepc b2 m0
        replace m1 := keepc b2 m1
        replace m2 := keepc b2 m2
        replace m3 := keepc b2 m3
        replace m4 := keepc b2 m4
        replace m5 := keepc b2 m5
        replace m6 := keepc b2 m6
        replace m7 := keepc b2 m7
        have K2 := BA.out.trans (b2.mono BA.out.size)
        have R2 := hR.out.below K2
        have B2 := hB.out.trans (K2.mono hB.out.size)
        have hj' : j < len := by rw [← HL.out]; exact hj
        have hRR := R2.2
        rcases hRR with ⟨_, h0⟩ | ⟨g, rfl, hg1, hg2, hg3⟩
        · omega
        have LG : wr.heap.size ≠ g := by
          rcases hR.out.2 with ⟨h, _⟩ | ⟨g', e, _, h, _⟩
          · cases h
          · cases e; omega
        have RG : w2.rangeAt g (j * 71) (rmA pre (da ns j)).cs := by
          obtain ⟨b', off', e, _, hc⟩ := R2.1.rowR (by omega)
          cases e
          have := hc j hj'
          rwa [Nat.zero_add, ra_map ns pre hj] at this
        have hsz := hB.out.size
        have TK := hid (take_one g (j * 71) (rmA pre (da ns j)) ⟨x1, x2, x3, sa, sl, sc, x5, x6, x7, x8, co⟩ w2.drew (rangeAt_drew RG) (fun i => hg3 i) hg2 ((HC.out.below B2).below (Below.refl _ w2).drew) (fun b' o' e hp => by
          have hc := HC.out
          simp only at e hp
          rw [e] at hc
          have := hc.lt hp
          omega) ((ndsB_iff.1 G2.out).1 j hj).1.2.1 (fr_ok G2.out hpre.out hj))
        have TL := take_le G2.out (x := ⟨x3, x5, co⟩) hpre.out hj hid3
        have RS := hid (rooms_step G2.out (ls := pre) (x := ⟨x3, x5, co⟩) hj hid3)
        have ja : (0 : Int) ≤ (j : Int) := by omega
        have jb : (j : Int) < (len : Int) := by omega
        have HR2 := hid R2
        have HB2 := hid B2
        obtain ⟨TB, hTB⟩ : ∃ t, takeB (rmA pre (da ns j)) (Le.z ⟨x1, x2, x3, sa, sl, sc, x5, x6, x7, x8, co⟩) = t := ⟨_, rfl⟩
        rw [hTB] at TK
        have TL2 : Hid (leB ns pre (Le.z ⟨x1, x2, x3, sa, sl, sc, x5, x6, x7, x8, co⟩) = TB) := hTB ▸ TL.symm
        rw [TL2.out] at NX
        clear hat b2 K2 R2 B2 RG hg3 TL hTB hid3 SKT c1 c2 c3 c4 c5 c6 c7 c8 BA HF MM
        go_upto_region 10 with fail
        have rg_m0 := drewc m0
        have rg_m1 := drewc m1
        have rg_m2 := drewc m2
        have rg_m3 := drewc m3
        have rg_m4 := drewc m4
        have rg_m5 := drewc m5
        have rg_m6 := drewc m6
        have rg_m7 := drewc m7
        refine wp_region_held_drew (S := (fun w' => w'.cell? ⟨wr.heap.size, 0, none⟩ = some (.int .i64 x1) ∧ w'.cell? ⟨wr.heap.size, 1, none⟩ = some (.int .i64 x2) ∧ w'.cell? ⟨wr.heap.size, 2, none⟩ = some (.int .i64 x3) ∧ w'.cell? ⟨wr.heap.size, 3, none⟩ = some (.slice sa sl sc) ∧ w'.cell? ⟨wr.heap.size, 4, none⟩ = some (.int .i64 x5) ∧ w'.cell? ⟨wr.heap.size, 5, none⟩ = some (.int .i64 x6) ∧ w'.cell? ⟨wr.heap.size, 6, none⟩ = some (.int .i64 x7) ∧ w'.cell? ⟨wr.heap.size, 7, none⟩ = some (.bool x8))) (by kernel_rfl) ⟨rg_m0, rg_m1, rg_m2, rg_m3, rg_m4, rg_m5, rg_m6, rg_m7⟩ (fun hHeld => ?_)
        refine wpAnyH_take (i := 0) (v := .bool true) rfl (by kernel_rfl) (by kernel_rfl) (by kernel_rfl) (fun _ _ _ h => h) (Or.inl ⟨by rfl, ?_⟩) (by assumption) ?_
        · (intro w hSw; (try dsimp only at hSw); go_simp)
        (try simp only [Act.put, List.getElem_toArray, List.getElem_cons_succ, List.getElem_cons_zero, List.setIfInBounds_toArray, List.set_cons_zero, List.set_cons_succ])
        refine wpAnyH_take (i := 1) (v := .bool false) rfl (by kernel_rfl) (by kernel_rfl) (by kernel_rfl) (fun _ _ _ h => h) (Or.inl ⟨by rfl, ?_⟩) (by assumption) ?_
        · (intro w hSw; (try dsimp only at hSw); go_simp)
        (try simp only [Act.put, List.getElem_toArray, List.getElem_cons_succ, List.getElem_cons_zero, List.setIfInBounds_toArray, List.set_cons_zero, List.set_cons_succ])
        refine wpAnyH_take (i := 2) (v := .bool false) rfl (by kernel_rfl) (by kernel_rfl) (by kernel_rfl) (fun _ _ _ h => h) (Or.inl ⟨by rfl, ?_⟩) (by assumption) ?_
        · (intro w hSw; (try dsimp only at hSw); go_simp)
        (try simp only [Act.put, List.getElem_toArray, List.getElem_cons_succ, List.getElem_cons_zero, List.setIfInBounds_toArray, List.set_cons_zero, List.set_cons_succ])
        refine wpAnyH_take (i := 3) (v := .slice (some ⟨g, 0, none⟩) len rc) rfl (by kernel_rfl) (by kernel_rfl) (by kernel_rfl) (fun _ _ _ h => h) (Or.inl ⟨by rfl, ?_⟩) (by assumption) ?_
        · (intro w hSw; (try dsimp only at hSw); go_simp)
        (try simp only [Act.put, List.getElem_toArray, List.getElem_cons_succ, List.getElem_cons_zero, List.setIfInBounds_toArray, List.set_cons_zero, List.set_cons_succ])
        refine wpAnyH_take (i := 4) (v := .int .i64 (j : Int)) rfl (by kernel_rfl) (by kernel_rfl) (by kernel_rfl) (fun _ _ _ h => h) (Or.inl ⟨by rfl, ?_⟩) (by assumption) ?_
        · (intro w hSw; (try dsimp only at hSw); go_simp)
        (try simp only [Act.put, List.getElem_toArray, List.getElem_cons_succ, List.getElem_cons_zero, List.setIfInBounds_toArray, List.set_cons_zero, List.set_cons_succ])
        refine wpAnyH_take (i := 5) (v := .pointer (some ⟨g, j * 71, none⟩)) rfl (by kernel_rfl) (by kernel_rfl) (by kernel_rfl) (fun _ _ _ h => h) (Or.inl ⟨by rfl, ?_⟩) (by assumption) ?_
        · (intro w hSw; (try dsimp only at hSw); go_simp)
        (try simp only [Act.put, List.getElem_toArray, List.getElem_cons_succ, List.getElem_cons_zero, List.setIfInBounds_toArray, List.set_cons_zero, List.set_cons_succ])
        refine wpAnyH_take (i := 6) (v := .agg #[.int .i64 x1, .int .i64 x2, .int .i64 x3, .slice sa sl sc, .int .i64 x5, .int .i64 x6, .int .i64 x7, .bool x8]) rfl (by kernel_rfl) (by kernel_rfl) (by kernel_rfl) (fun _ _ _ h => h) (Or.inl ⟨by rfl, ?_⟩) (by assumption) ?_
        · (intro w hSw; (try dsimp only at hSw); go_simp)
        (try simp only [Act.put, List.getElem_toArray, List.getElem_cons_succ, List.getElem_cons_zero, List.setIfInBounds_toArray, List.set_cons_zero, List.set_cons_succ])
        refine wpAnyH_ready (rs := [7]) (by kernel_rfl) (by simp) ?_
        refine AllReadyH.cons rfl (fun K hK => ?_) AllReadyH.nil
        go_simp
        refine TK.out.mono ?_
        rintro e w3 ⟨rfl, r3, t3, y3⟩
        replace rg_m0 := But.cell t3.but rg_m0 LG
        replace rg_m1 := But.cell t3.but rg_m1 LG
        replace rg_m2 := But.cell t3.but rg_m2 LG
        replace rg_m3 := But.cell t3.but rg_m3 LG
        replace rg_m4 := But.cell t3.but rg_m4 LG
        replace rg_m5 := But.cell t3.but rg_m5 LG
        replace rg_m6 := But.cell t3.but rg_m6 LG
        replace rg_m7 := But.cell t3.but rg_m7 LG
        refine hK.out _ _ ⟨rg_m0, rg_m1, rg_m2, rg_m3, rg_m4, rg_m5, rg_m6, rg_m7⟩ (fun hHeld => ?_)
        clear hK K
        (try simp only [Act.put, List.getElem_toArray, List.getElem_cons_succ, List.getElem_cons_zero, List.setIfInBounds_toArray, List.set_cons_zero, List.set_cons_succ])
        refine wpAnyH_take (i := 8) (v := .bool (!TB)) rfl (by kernel_rfl) (by kernel_rfl) (by kernel_rfl) (fun _ _ _ h => h) (Or.inl ⟨by rfl, ?_⟩) (by assumption) ?_
        · (intro w hSw; (try dsimp only at hSw); go_simp)
        (try simp only [Act.put, List.getElem_toArray, List.getElem_cons_succ, List.getElem_cons_zero, List.setIfInBounds_toArray, List.set_cons_zero, List.set_cons_succ])
        refine wpAnyH_take (i := 9) (v := .bool (!TB)) rfl (by kernel_rfl) (by kernel_rfl) (by kernel_rfl) (fun _ _ _ h => h) (Or.inl ⟨by rfl, ?_⟩) (by assumption) ?_
        · (intro w hSw; (try dsimp only at hSw); go_simp)
        (try simp only [Act.put, List.getElem_toArray, List.getElem_cons_succ, List.getElem_cons_zero, List.setIfInBounds_toArray, List.set_cons_zero, List.set_cons_succ])
        refine wpAnyH_done (by kernel_rfl) ?_ _
        clear hHeld rg_m0 rg_m1 rg_m2 rg_m3 rg_m4 rg_m5 rg_m6 rg_m7
        have T3 := hid t3
        have Y3 := hid y3
        clear t3 y3 TK
        have B3 := hid ((below_drewN HB2.out 1).trans (T3.out.but.bel.mono hg1))
        cases TB
        · have NO : Hid (plE ns (l.map Le.z) = 4) := by unfold Hid; rw [E.out, NX.out]; rfl
          clear NX
          go_wp2
          go_ret2
          exact ⟨_, retV NO.out.symm, .inl ⟨by rw [NO.out]; decide, rfl⟩, B3.out⟩
        · obtain rfl := Y3.out rfl
          have R3 : Hid (Rooms w.heap.size w3 (some ⟨g, 0, none⟩) len rc (ns.map (rmA (pre ++ [⟨x3, x5, co⟩])))) := by
            refine ⟨?_, .inr ⟨g, rfl, hg1, T3.out.glt, T3.out.fz⟩⟩
            rw [RS.out]
            exact T3.out.holds (HR2.out.1.below (Below.refl _ w2).drew) hj'
          have P3 : Hid (lesB ns [] (pre ++ [⟨x3, x5, co⟩]) = true) := by unfold Hid; rw [lesB_one, hpre.out, Bool.true_and]; exact TL2.out
          have N3 : Hid (lesB ns [] (l.map Le.z) = lesB ns (pre ++ [⟨x3, x5, co⟩]) ((l.map Le.z).drop (k + 1))) := by unfold Hid; rw [NX.out, Bool.true_and]; rfl
          have TN' : Hid ((l.map Le.z).take (k + 1) = pre ++ [⟨x3, x5, co⟩]) := TN.out
          rw [← TN'.out] at R3 P3 N3
          clear NX TN Y3 RS T3 HR2
          go_wp2
          go_roundw
          case rel => exact ⟨k + 1, by omega, by go_num, N3, P3, R3, B3⟩
          case measure => simp [intOf]; omega
    · have tk : (l.map Le.z).take k = l.map Le.z := List.take_of_length_le (by rw [List.length_map, HQL.out]; omega)
      rw [tk] at hR hpre
      have YES : Hid (plE ns (l.map Le.z) = 0) := by unfold Hid; rw [E.out, hpre.out]; rfl
      clear hgo
      go_wp2
      go_ret2
      exact ⟨_, retV YES.out.symm, .inr ⟨YES.out, _, _, rfl, hR.out⟩, hB.out⟩

end Go.Proofs.Ytikalkigmnipiaa
