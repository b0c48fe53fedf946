/-
  law07's twin of a list of leases; are two lists alike?
-/
import Derived.Test.YtikalkigmnipiaaPR
namespace Go.Proofs.Ytikalkigmnipiaa
open Go.RowKit Go.Deep Go.Maps Go.Shelf
set_option linter.unusedVariables false
set_option linter.unusedSimpArgs false

/-- What counts of a lease, with its task. -/
def Le.y (x : Le) : Int × Lz := (x.ta, x.z)
abbrev OwnL (base : Nat) (w : World) (v : Value) (n : Nat) (l : List Le) : Prop := OwnE 43 8 Le.cs base w v n l
theorem infoL : (Try.prog.info? 43).map (fun i => (i.zero, i.size, i.bytes)) = some (some (.agg (Le.cs le0).toArray), 8, 80) := by kernel_rfl
theorem own_grown {base base' : Nat} {w w' : World} {u v : Value} {n m : Nat} {l : List Int} {L : List Le} (h : OwnN base w u n l) (hr : OwnL base' w v m L) (hg : w.grownBy w' v.ownBlock) : OwnN base w' u n l := by
  obtain ⟨h0, h1, h2⟩ := h
  refine ⟨h0, h1, ?_⟩
  rcases h2 with h2 | ⟨g, cap, cur, rfl, hb, hh, r⟩
  · exact .inl h2
  · refine .inr ⟨g, cap, cur, rfl, hb, ?_, r⟩
    rw [hg.block g (Array.getElem?_eq_some_iff.1 hh).1 (fun e => ?_)]
    · exact hh
    · rcases hr.2.2 with ⟨rfl, _⟩ | ⟨g', cap', cur', rfl, _, hh', _⟩
      · cases e
      · simp [Value.ownBlock] at e
        subst e
        rw [hh] at hh'
        injection hh' with h3
        injection h3 with _ h4
        exact absurd h4 (by decide)
theorem OwnE.setFar {α : Type} {e : TypeId} {k : Nat} {enc : α → List Value} {base n : Nat} {l : List α} {v : Value} {w : World} (h : OwnE e k enc base w v n l) {b o : Nat} {x : Value} (hb : b < base) : OwnE e k enc base (w.setCell ⟨b, o, none⟩ x) v n l := by
  obtain ⟨h0, h1, h2⟩ := h
  refine ⟨h0, h1, ?_⟩
  rcases h2 with h2 | ⟨g, cap, cur, hv, hg, hh, r⟩
  · exact .inl h2
  · refine .inr ⟨g, cap, cur, hv, hg, ?_, r⟩
    rw [Below.heap_setCell _ _ _ _ (by show g ≠ b; omega)]
    exact hh
section
variable {α : Type} {k : Nat} {enc : α → List Value} {ops : Array Oper} {rest : List Oper} {o : Oper} {a : Act} {Q : Exit → Act → World → Prop}
theorem push_at (T e : TypeId) (z : Value) (bytes : Nat) (hk : ∀ x, (enc x).length = k) (h1 : ∀ x, ∀ u ∈ enc x, u.oneCell' = true) (hT : Try.prog.underlying T = some (.slice e)) (hI : (Try.prog.info? e).map (fun i => (i.zero, i.size, i.bytes)) = some (some z, k, bytes)) (hz : z.cells.size = k) (hk0 : 0 < k)
    (wr : World) (bs : Nat) (hbs : wr.heap.size = bs) (x : α) (hg : o.guard = none) (s y : Operand) (hop : o.op = Op.call { callee := Callee.builtin Builtin.append, args := #[s, y], argTypes := #[T, T] })
    (base n : Nat) (v : Value) (l : List α) (cs : Array Value) (hcs : cs.toList = enc x) (hs : a.eval s = v) (hown : OwnE e k enc base wr v n l) (hb : base ≤ wr.heap.size) (hx : a.eval y = .slice (some ⟨bs, 0, none⟩) 1 1) (b0 : n + 1 ≤ 9223372036854775807) (b1 : (n + 1) * bytes ≤ 140737488355328)
    (hK : ∀ v' w', OwnE e k enc base w' v' (n + 1) (l ++ [x]) → Below base wr w' → wr.grownBy w' v.ownBlock → wpList Try.prog ops Q rest (a.put o.dst v') w') :
    wpList Try.prog ops Q (o :: rest) a (wr.alloc (.cells cs e)) := by
  subst hbs
  exact push_ownE T e z bytes hk h1 hT hI hz hk0 wr x hg s y hop base n v l cs hcs hs hown hb hx b0 b1 hK
end
theorem take_le' {l : List Le} {k : Nat} (h : k < l.length) : l.take (k + 1) = l.take k ++ [la l k] := by rw [List.take_add_one, la_get h]; rfl

set_option maxRecDepth 100000 in
set_option maxHeartbeats 8000000 in
theorem twin7_any (qa : Option Addr) (ql qc : Nat) (l : List Le) (w : World) (hl : HoldsL w qa ql qc l) (hs : qc * 80 ≤ 140737488351232) (hn : ∀ q ∈ l, q.sc * 8 ≤ 140737488351232) :
    Calls Try.prog 16 #[.slice qa ql qc] w fun e w' => ∃ v, e = .returned v ∧ (∃ l' : List Le, OwnL w.heap.size w' v ql l' ∧ (∀ x ∈ l', OwnN w.heap.size w' (.slice x.sa x.sl x.sc) x.sl x.co) ∧ l'.map Le.y = l.map Le.y) ∧ Below w.heap.size w w' := by
  have HQ := hid hl
  have HQL := hid hl.1.1
  have qcap := hl.1.2.1
  have qcm := hl.1.2.2.1
  have HNS := hid hn
  clear hl hn
  go_enter Try.func16, Try.ntmps16
  go_wp2_with fail
  go_loopw [8, 3] (fun i v wr => ∃ k : Nat, k ≤ ql ∧ i = .int .i64 (k : Int) ∧ Hid (∃ l' : List Le, OwnL w.heap.size wr v k l' ∧ (∀ x ∈ l', OwnN w.heap.size wr (.slice x.sa x.sl x.sc) x.sl x.co) ∧ l'.map Le.y = (l.take k).map Le.y) ∧ Hid (Below w.heap.size w wr)) (fun i _ _ => ql - (intOf i).toNat)
  case atStart => exact ⟨0, by omega, rfl, ⟨[], OwnE.nil _ _ _ _ _, (fun x hx => by cases hx), by simp⟩, Below.refl _ _⟩
  case round =>
    obtain ⟨k, hk, rfl, hO, hB⟩ := hrel
    by_cases hlt : k < ql
    · have hlt' : k < l.length := by rw [HQL.out]; exact hlt
      obtain ⟨b, off, rfl, hbl, Rw⟩ := HQ.out.1.rowL (by omega)
      obtain ⟨d1, d2, d3, d4, d5, d6, d7, d8⟩ := Rw k hlt
      have c1 := keepc hB.out d1
      have c2 := keepc hB.out d2
      have c3 := keepc hB.out d3
      have c4 := keepc hB.out d4
      have c5 := keepc hB.out d5
      have c6 := keepc hB.out d6
      have c7 := keepc hB.out d7
      have c8 := keepc hB.out d8
      have HC := hid ((HQ.out.2 _ (la_mem hlt')).below hB.out)
      have TN := hid (take_le' hlt')
      have NS := HNS.out _ (la_mem hlt')
      have ka : (0 : Int) ≤ (k : Int) := by omega
      have kb : (k : Int) < (ql : Int) := by omega
      obtain ⟨l', ho, hon, hy⟩ := hO.out
      have HO := hid ho
      have HON := hid hon
      have HY := hid hy
      clear d1 d2 d3 d4 d5 d6 d7 d8 Rw ho hon hy hO
      generalize hx : la l k = x at *
      clear hx
      obtain ⟨x1, x2, x3, sa, sl, sc, x5, x6, x7, x8, co⟩ := x
      have ccap := HC.out.2.1
      simp only at NS ccap
      have BA : Hid (Below wr.heap.size wr (wr.alloc (.cells #[.int .i64 x1, .int .i64 x2, .int .i64 x3, .slice sa sl sc, .int .i64 x5, .int .i64 x6, .int .i64 x7, .bool x8] 43))) := (Below.refl _ wr).alloc (Nat.le_refl _) _
      have BB : Hid (Below wr.heap.size wr ((wr.alloc (.cells #[.int .i64 x1, .int .i64 x2, .int .i64 x3, .slice sa sl sc, .int .i64 x5, .int .i64 x6, .int .i64 x7, .bool x8] 43)).alloc (.cells #[] 3))) := BA.out.alloc (by simp) _
      have sA : (wr.alloc (.cells #[.int .i64 x1, .int .i64 x2, .int .i64 x3, .slice sa sl sc, .int .i64 x5, .int .i64 x6, .int .i64 x7, .bool x8] 43)).heap.size = wr.heap.size + 1 := by simp
      have OL : Hid (OwnN (wr.heap.size + 1) ((wr.alloc (.cells #[.int .i64 x1, .int .i64 x2, .int .i64 x3, .slice sa sl sc, .int .i64 x5, .int .i64 x6, .int .i64 x7, .bool x8] 43)).alloc (.cells #[] 3)) (.slice (some ⟨wr.heap.size + 1, 0, none⟩) 0 0) 0 []) := by
        have h := OwnE.lit 3 1 encN (wr.alloc (.cells #[.int .i64 x1, .int .i64 x2, .int .i64 x3, .slice sa sl sc, .int .i64 x5, .int .i64 x6, .int .i64 x7, .bool x8] 43))
        rw [sA] at h
        exact h
      have HCb := hid (HC.out.below BB.out)
      have sB : Hid (wr.heap.size + 1 ≤ ((wr.alloc (.cells #[.int .i64 x1, .int .i64 x2, .int .i64 x3, .slice sa sl sc, .int .i64 x5, .int .i64 x6, .int .i64 x7, .bool x8] 43)).alloc (.cells #[] 3)).heap.size) := by unfold Hid; simp
      have P : Hid (((wr.alloc (.cells #[.int .i64 x1, .int .i64 x2, .int .i64 x3, .slice sa sl sc, .int .i64 x5, .int .i64 x6, .int .i64 x7, .bool x8] 43)).alloc (.cells #[] 3)).cell? ⟨wr.heap.size, 0, none⟩ = some (.int .i64 x1) ∧ ((wr.alloc (.cells #[.int .i64 x1, .int .i64 x2, .int .i64 x3, .slice sa sl sc, .int .i64 x5, .int .i64 x6, .int .i64 x7, .bool x8] 43)).alloc (.cells #[] 3)).cell? ⟨wr.heap.size, 1, none⟩ = some (.int .i64 x2) ∧ ((wr.alloc (.cells #[.int .i64 x1, .int .i64 x2, .int .i64 x3, .slice sa sl sc, .int .i64 x5, .int .i64 x6, .int .i64 x7, .bool x8] 43)).alloc (.cells #[] 3)).cell? ⟨wr.heap.size, 2, none⟩ = some (.int .i64 x3) ∧ ((wr.alloc (.cells #[.int .i64 x1, .int .i64 x2, .int .i64 x3, .slice sa sl sc, .int .i64 x5, .int .i64 x6, .int .i64 x7, .bool x8] 43)).alloc (.cells #[] 3)).cell? ⟨wr.heap.size, 3, none⟩ = some (.slice sa sl sc) ∧ ((wr.alloc (.cells #[.int .i64 x1, .int .i64 x2, .int .i64 x3, .slice sa sl sc, .int .i64 x5, .int .i64 x6, .int .i64 x7, .bool x8] 43)).alloc (.cells #[] 3)).cell? ⟨wr.heap.size, 4, none⟩ = some (.int .i64 x5) ∧ ((wr.alloc (.cells #[.int .i64 x1, .int .i64 x2, .int .i64 x3, .slice sa sl sc, .int .i64 x5, .int .i64 x6, .int .i64 x7, .bool x8] 43)).alloc (.cells #[] 3)).cell? ⟨wr.heap.size, 5, none⟩ = some (.int .i64 x6) ∧ ((wr.alloc (.cells #[.int .i64 x1, .int .i64 x2, .int .i64 x3, .slice sa sl sc, .int .i64 x5, .int .i64 x6, .int .i64 x7, .bool x8] 43)).alloc (.cells #[] 3)).cell? ⟨wr.heap.size, 6, none⟩ = some (.int .i64 x7) ∧ ((wr.alloc (.cells #[.int .i64 x1, .int .i64 x2, .int .i64 x3, .slice sa sl sc, .int .i64 x5, .int .i64 x6, .int .i64 x7, .bool x8] 43)).alloc (.cells #[] 3)).cell? ⟨wr.heap.size, 7, none⟩ = some (.bool x8) ∧ ((wr.alloc (.cells #[.int .i64 x1, .int .i64 x2, .int .i64 x3, .slice sa sl sc, .int .i64 x5, .int .i64 x6, .int .i64 x7, .bool x8] 43)).alloc (.cells #[] 3)).frozen? ⟨wr.heap.size, 3, none⟩ = false) := by
        refine ⟨?_, ?_, ?_, ?_, ?_, ?_, ?_, ?_, ?_⟩ <;> simp [go_sem]
      clear sA HC
      go_wp2_with (at_builtin; refine cat_ownN _ rfl (.tmp 12) (.tmp 14) rfl (wr.heap.size + 1) 0 _ [] rfl OL.out sB.out sa sl sc co rfl HCb.out (by omega) ?_)
      intro v2 w2 o2 b2 g2
      obtain ⟨a2, cc2, rfl⟩ := o2.form
      have bl : ∀ i, w2.cell? ⟨wr.heap.size, i, none⟩ = ((wr.alloc (.cells #[.int .i64 x1, .int .i64 x2, .int .i64 x3, .slice sa sl sc, .int .i64 x5, .int .i64 x6, .int .i64 x7, .bool x8] 43)).alloc (.cells #[] 3)).cell? ⟨wr.heap.size, i, none⟩ := fun i => b2.cell (p := ⟨wr.heap.size, i, none⟩) (by show wr.heap.size < wr.heap.size + 1; omega)
      have bz : w2.frozen? ⟨wr.heap.size, 3, none⟩ = false := (b2.frozen (p := ⟨wr.heap.size, 3, none⟩) (by show wr.heap.size < wr.heap.size + 1; omega)).trans P.out.2.2.2.2.2.2.2.2
      have p0 := (bl 0).trans P.out.1
      have p1 := (bl 1).trans P.out.2.1
      have p2 := (bl 2).trans P.out.2.2.1
      have p3 := (bl 3).trans P.out.2.2.2.1
      have p4 := (bl 4).trans P.out.2.2.2.2.1
      have p5 := (bl 5).trans P.out.2.2.2.2.2.1
      have p6 := (bl 6).trans P.out.2.2.2.2.2.2.1
      have p7 := (bl 7).trans P.out.2.2.2.2.2.2.2.1
      have K3 : Hid (Below wr.heap.size wr (w2.setCell ⟨wr.heap.size, 3, none⟩ (.slice a2 sl cc2))) := (BB.out.trans (b2.mono (by omega))).setCell (Nat.le_refl _) _
      have O2 := hid (o2.setFar (b := wr.heap.size) (o := 3) (x := .slice a2 sl cc2) (by omega))
      have O3 := hid (HO.out.below K3.out)
      have S3 : Hid (w.heap.size ≤ (w2.setCell ⟨wr.heap.size, 3, none⟩ (.slice a2 sl cc2)).heap.size) := Nat.le_trans hB.out.size K3.out.size
      clear bl P OL HCb sB b2 g2 o2 BA BB HO c1 c2 c3 c4 c5 c6 c7 c8
      go_wp2_with (at_builtin; refine push_at 23 43 _ 80 Le.cs_len Le.one Try.underlying23 infoL (by kernel_rfl) (by decide) (w2.setCell ⟨wr.heap.size, 3, none⟩ (.slice a2 sl cc2)) w2.heap.size (by simp [World.setCell]) ⟨x1, x2, x3, a2, sl, cc2, x5, x6, x7, x8, co⟩ rfl (.tmp 17) (.tmp 19) rfl w.heap.size k u3 l' _ rfl rfl O3.out S3.out rfl (by omega) (by omega) ?_)
      intro v5 w5 o5 b5 g5
      have NO : Hid (∃ l' : List Le, OwnL w.heap.size w5 v5 (k + 1) l' ∧ (∀ x ∈ l', OwnN w.heap.size w5 (.slice x.sa x.sl x.sc) x.sl x.co) ∧ l'.map Le.y = (l.take (k + 1)).map Le.y) := by
        refine ⟨_, o5, ?_, ?_⟩
        · intro x hx
          rcases List.mem_append.1 hx with h | h
          · exact own_grown ((HON.out x h).below K3.out) O3.out g5
          · obtain rfl : x = _ := List.mem_singleton.1 h
            exact own_grown (O2.out.weaken (Nat.le_trans hB.out.size (Nat.le_succ _))) O3.out g5
        · rw [List.map_append, HY.out, TN.out, List.map_append]; rfl
      have B5 := hid ((hB.out.trans (K3.out.mono hB.out.size)).trans b5)
      clear o5 b5 g5 O2 O3 p0 p1 p2 p3 p4 p5 p6 p7 bz
      go_wp2
      go_roundw
      case rel => exact ⟨k + 1, by omega, by go_num, NO, B5⟩
      case measure => simp [intOf]; omega
    · obtain rfl : k = ql := by omega
      have tk : l.take k = l := List.take_of_length_le (by rw [HQL.out]; omega)
      rw [tk] at hO
      go_wp2
      go_ret
      exact ⟨_, rfl, hO.out, hB.out⟩

theorem map_y_at {l l' : List Le} (h : l'.map Le.y = l.map Le.y) {k : Nat} (hk : k < l.length) : (la l' k).y = (la l k).y := by
  have h1 : l'.length = l.length := by have := congrArg List.length h; simpa using this
  have h2 := congrArg (fun z => z[k]?) h
  simp only [List.getElem?_map] at h2
  rw [la_get hk, la_get (by omega)] at h2
  simpa using h2
theorem map_z {l l' : List Le} (h : l'.map Le.y = l.map Le.y) : l'.map Le.z = l.map Le.z := by
  have := congrArg (List.map Prod.snd) h
  rwa [List.map_map, List.map_map] at this

set_option maxRecDepth 100000 in
set_option maxHeartbeats 8000000 in
theorem same7_any (a b : Option Addr) (len ca cb : Nat) (l' l : List Le) (w : World) (h1 : HoldsL w a len ca l') (h2 : HoldsL w b len cb l) (he : l'.map Le.y = l.map Le.y) (hn : ∀ q ∈ l, q.sc * 8 ≤ 140737488351232) :
    Calls Try.prog 20 #[.slice a len ca, .slice b len cb] w fun e w' => e = .returned (.bool true) ∧ Below w.heap.size w w' := by
  have HA := hid h1
  have HB := hid h2
  have LA := hid h1.1.1
  have LB := hid h2.1.1
  have acap := h1.1.2.1
  have bcap := h2.1.2.1
  have acm := h1.1.2.2.1
  have HE := hid he
  have HNS := hid hn
  have tl : ((len : Int) != (len : Int)) = false := by simp
  clear h1 h2 he hn
  go_enter Try.func20, Try.ntmps20
  go_wp2_with fail
  go_loopw [13] (fun i wr => ∃ k : Nat, k ≤ len ∧ i = .int .i64 (k : Int) ∧ Hid (Below w.heap.size w wr)) (fun i _ => len - (intOf i).toNat)
  case atStart => exact ⟨0, by omega, rfl, Below.refl _ _⟩
  case round =>
    obtain ⟨k, hk, rfl, hB⟩ := hrel
    by_cases hlt : k < len
    · have hk1 : k < l'.length := by rw [LA.out]; exact hlt
      have hk2 : k < l.length := by rw [LB.out]; exact hlt
      obtain ⟨tb, tf, rfl, _, RA⟩ := HA.out.1.rowL (by omega)
      obtain ⟨lb, lo, rfl, _, RB⟩ := HB.out.1.rowL (by omega)
      obtain ⟨d0, _, d2, d3, d4, _, _, _⟩ := RA k hlt
      obtain ⟨e0, _, e2, e3, e4, _, _, _⟩ := RB k hlt
      have a0 := keepc hB.out d0
      have a2 := keepc hB.out d2
      have a3 := keepc hB.out d3
      have a4 := keepc hB.out d4
      have b0 := keepc hB.out e0
      have b2 := keepc hB.out e2
      have b3 := keepc hB.out e3
      have b4 := keepc hB.out e4
      have EY := map_y_at HE.out hk2
      have NA := (HA.out.2 _ (la_mem hk1)).below hB.out
      have NB := (HB.out.2 _ (la_mem hk2)).below hB.out
      have NS := HNS.out _ (la_mem hk2)
      clear d0 d2 d3 d4 e0 e2 e3 e4 RA RB
      generalize la l' k = x at *
      generalize la l k = y at *
      obtain ⟨x1, x2, x3, sa, sl, sc, x5, x6, x7, x8, co⟩ := x
      obtain ⟨y1, y2, y3, ta, tl', tc, y5, y6, y7, y8, yo⟩ := y
      simp only [Le.y, Le.z, Prod.mk.injEq, Lz.mk.injEq] at EY
      obtain ⟨rfl, rfl, rfl, rfl⟩ := EY
      have l1 : co.length = sl := NA.1
      have l2 : co.length = tl' := NB.1
      obtain rfl : sl = tl' := by omega
      have NS' : tc * 8 ≤ 140737488351232 := NS
      have ycap : sl ≤ tc := NB.2.1
      clear NS
      have IT := hid (fun W (hW : Below wr.heap.size wr W) => ints_any sa ta sl sc tc co W (NA.below hW) (NB.below hW) (by omega))
      have t1 : (x1 != x1) = false := by simp
      have t3 : (x3 != x3) = false := by simp
      have t5 : (x5 != x5) = false := by simp
      have ka : (0 : Int) ≤ (k : Int) := by omega
      have kb : (k : Int) < (len : Int) := by omega
      clear NA NB NS' ycap l1 l2
      go_upto_region 6 with fail
      have rg_a0 := drewc a0
      have rg_a2 := drewc a2
      have rg_a3 := drewc a3
      have rg_a4 := drewc a4
      have rg_b0 := drewc b0
      have rg_b2 := drewc b2
      have rg_b3 := drewc b3
      have rg_b4 := drewc b4
      refine wp_region_held_drew (S := (fun w' => w'.cell? ⟨tb, tf + k * 8, none⟩ = some (.int .i64 x1) ∧ w'.cell? ⟨tb, tf + k * 8 + 2, none⟩ = some (.int .i64 x3) ∧ w'.cell? ⟨tb, tf + k * 8 + 3, none⟩ = some (.slice sa sl sc) ∧ w'.cell? ⟨tb, tf + k * 8 + 4, none⟩ = some (.int .i64 x5) ∧ w'.cell? ⟨lb, lo + k * 8, none⟩ = some (.int .i64 x1) ∧ w'.cell? ⟨lb, lo + k * 8 + 2, none⟩ = some (.int .i64 x3) ∧ w'.cell? ⟨lb, lo + k * 8 + 3, none⟩ = some (.slice ta sl tc) ∧ w'.cell? ⟨lb, lo + k * 8 + 4, none⟩ = some (.int .i64 x5))) (by kernel_rfl) ⟨rg_a0, rg_a2, rg_a3, rg_a4, rg_b0, rg_b2, rg_b3, rg_b4⟩ (fun hHeld => ?_)
      refine wpAnyH_take (i := 0) (v := .slice (some ⟨tb, tf, none⟩) len ca) rfl (by kernel_rfl) (by kernel_rfl) (by kernel_rfl) (fun _ _ _ h => h) (Or.inl ⟨by rfl, ?_⟩) (by assumption) ?_
      · (intro w hSw; (try dsimp only at hSw); go_simp)
      (try simp only [Act.put, List.getElem_toArray, List.getElem_cons_succ, List.getElem_cons_zero, List.setIfInBounds_toArray, List.set_cons_zero, List.set_cons_succ])
      refine wpAnyH_take (i := 1) (v := .int .i64 (k : Int)) rfl (by kernel_rfl) (by kernel_rfl) (by kernel_rfl) (fun _ _ _ h => h) (Or.inl ⟨by rfl, ?_⟩) (by assumption) ?_
      · (intro w hSw; (try dsimp only at hSw); go_simp)
      (try simp only [Act.put, List.getElem_toArray, List.getElem_cons_succ, List.getElem_cons_zero, List.setIfInBounds_toArray, List.set_cons_zero, List.set_cons_succ])
      refine wpAnyH_take (i := 2) (v := .pointer (some ⟨tb, tf + k * 8, none⟩)) rfl (by kernel_rfl) (by kernel_rfl) (by kernel_rfl) (fun _ _ _ h => h) (Or.inl ⟨by rfl, ?_⟩) (by assumption) ?_
      · (intro w hSw; (try dsimp only at hSw); go_simp)
      (try simp only [Act.put, List.getElem_toArray, List.getElem_cons_succ, List.getElem_cons_zero, List.setIfInBounds_toArray, List.set_cons_zero, List.set_cons_succ])
      refine wpAnyH_take (i := 3) (v := .pointer (some ⟨tb, tf + k * 8, none⟩)) rfl (by kernel_rfl) (by kernel_rfl) (by kernel_rfl) (fun _ _ _ h => h) (Or.inl ⟨by rfl, ?_⟩) (by assumption) ?_
      · (intro w hSw; (try dsimp only at hSw); go_simp)
      (try simp only [Act.put, List.getElem_toArray, List.getElem_cons_succ, List.getElem_cons_zero, List.setIfInBounds_toArray, List.set_cons_zero, List.set_cons_succ])
      refine wpAnyH_take (i := 4) (v := .int .i64 x1) rfl (by kernel_rfl) (by kernel_rfl) (by kernel_rfl) (fun _ _ _ h => h) (Or.inl ⟨by rfl, ?_⟩) (by assumption) ?_
      · (intro w hSw; (try dsimp only at hSw); go_simp)
      (try simp only [Act.put, List.getElem_toArray, List.getElem_cons_succ, List.getElem_cons_zero, List.setIfInBounds_toArray, List.set_cons_zero, List.set_cons_succ])
      refine wpAnyH_take (i := 5) (v := .slice (some ⟨lb, lo, none⟩) len cb) rfl (by kernel_rfl) (by kernel_rfl) (by kernel_rfl) (fun _ _ _ h => h) (Or.inl ⟨by rfl, ?_⟩) (by assumption) ?_
      · (intro w hSw; (try dsimp only at hSw); go_simp)
      (try simp only [Act.put, List.getElem_toArray, List.getElem_cons_succ, List.getElem_cons_zero, List.setIfInBounds_toArray, List.set_cons_zero, List.set_cons_succ])
      refine wpAnyH_take (i := 6) (v := .int .i64 (k : Int)) rfl (by kernel_rfl) (by kernel_rfl) (by kernel_rfl) (fun _ _ _ h => h) (Or.inl ⟨by rfl, ?_⟩) (by assumption) ?_
      · (intro w hSw; (try dsimp only at hSw); go_simp)
      (try simp only [Act.put, List.getElem_toArray, List.getElem_cons_succ, List.getElem_cons_zero, List.setIfInBounds_toArray, List.set_cons_zero, List.set_cons_succ])
      refine wpAnyH_take (i := 7) (v := .pointer (some ⟨lb, lo + k * 8, none⟩)) rfl (by kernel_rfl) (by kernel_rfl) (by kernel_rfl) (fun _ _ _ h => h) (Or.inl ⟨by rfl, ?_⟩) (by assumption) ?_
      · (intro w hSw; (try dsimp only at hSw); go_simp)
      (try simp only [Act.put, List.getElem_toArray, List.getElem_cons_succ, List.getElem_cons_zero, List.setIfInBounds_toArray, List.set_cons_zero, List.set_cons_succ])
      refine wpAnyH_take (i := 8) (v := .pointer (some ⟨lb, lo + k * 8, none⟩)) rfl (by kernel_rfl) (by kernel_rfl) (by kernel_rfl) (fun _ _ _ h => h) (Or.inl ⟨by rfl, ?_⟩) (by assumption) ?_
      · (intro w hSw; (try dsimp only at hSw); go_simp)
      (try simp only [Act.put, List.getElem_toArray, List.getElem_cons_succ, List.getElem_cons_zero, List.setIfInBounds_toArray, List.set_cons_zero, List.set_cons_succ])
      refine wpAnyH_take (i := 9) (v := .int .i64 x1) rfl (by kernel_rfl) (by kernel_rfl) (by kernel_rfl) (fun _ _ _ h => h) (Or.inl ⟨by rfl, ?_⟩) (by assumption) ?_
      · (intro w hSw; (try dsimp only at hSw); go_simp)
      (try simp only [Act.put, List.getElem_toArray, List.getElem_cons_succ, List.getElem_cons_zero, List.setIfInBounds_toArray, List.set_cons_zero, List.set_cons_succ])
      refine wpAnyH_take (i := 10) (v := .bool false) rfl (by kernel_rfl) (by kernel_rfl) (by kernel_rfl) (fun _ _ _ h => h) (Or.inl ⟨by rfl, ?_⟩) (by assumption) ?_
      · (intro w hSw; (try dsimp only at hSw); go_simp)
      (try simp only [Act.put, List.getElem_toArray, List.getElem_cons_succ, List.getElem_cons_zero, List.setIfInBounds_toArray, List.set_cons_zero, List.set_cons_succ])
      refine wpAnyH_take (i := 11) (v := .bool false) rfl (by kernel_rfl) (by kernel_rfl) (by kernel_rfl) (fun _ _ _ h => h) (Or.inl ⟨by rfl, ?_⟩) (by assumption) ?_
      · (intro w hSw; (try dsimp only at hSw); go_simp)
      (try simp only [Act.put, List.getElem_toArray, List.getElem_cons_succ, List.getElem_cons_zero, List.setIfInBounds_toArray, List.set_cons_zero, List.set_cons_succ])
      refine wpAnyH_take (i := 12) (v := .slice (some ⟨tb, tf, none⟩) len ca) rfl (by kernel_rfl) (by kernel_rfl) (by kernel_rfl) (fun _ _ _ h => h) (Or.inl ⟨by rfl, ?_⟩) (by assumption) ?_
      · (intro w hSw; (try dsimp only at hSw); go_simp)
      (try simp only [Act.put, List.getElem_toArray, List.getElem_cons_succ, List.getElem_cons_zero, List.setIfInBounds_toArray, List.set_cons_zero, List.set_cons_succ])
      refine wpAnyH_take (i := 13) (v := .int .i64 (k : Int)) rfl (by kernel_rfl) (by kernel_rfl) (by kernel_rfl) (fun _ _ _ h => h) (Or.inl ⟨by rfl, ?_⟩) (by assumption) ?_
      · (intro w hSw; (try dsimp only at hSw); go_simp)
      (try simp only [Act.put, List.getElem_toArray, List.getElem_cons_succ, List.getElem_cons_zero, List.setIfInBounds_toArray, List.set_cons_zero, List.set_cons_succ])
      refine wpAnyH_take (i := 14) (v := .pointer (some ⟨tb, tf + k * 8, none⟩)) rfl (by kernel_rfl) (by kernel_rfl) (by kernel_rfl) (fun _ _ _ h => h) (Or.inl ⟨by rfl, ?_⟩) (by assumption) ?_
      · (intro w hSw; (try dsimp only at hSw); go_simp)
      (try simp only [Act.put, List.getElem_toArray, List.getElem_cons_succ, List.getElem_cons_zero, List.setIfInBounds_toArray, List.set_cons_zero, List.set_cons_succ])
      refine wpAnyH_take (i := 15) (v := .pointer (some ⟨tb, tf + k * 8 + 2, none⟩)) rfl (by kernel_rfl) (by kernel_rfl) (by kernel_rfl) (fun _ _ _ h => h) (Or.inl ⟨by rfl, ?_⟩) (by assumption) ?_
      · (intro w hSw; (try dsimp only at hSw); go_simp)
      (try simp only [Act.put, List.getElem_toArray, List.getElem_cons_succ, List.getElem_cons_zero, List.setIfInBounds_toArray, List.set_cons_zero, List.set_cons_succ])
      refine wpAnyH_take (i := 16) (v := .int .i64 x3) rfl (by kernel_rfl) (by kernel_rfl) (by kernel_rfl) (fun _ _ _ h => h) (Or.inl ⟨by rfl, ?_⟩) (by assumption) ?_
      · (intro w hSw; (try dsimp only at hSw); go_simp)
      (try simp only [Act.put, List.getElem_toArray, List.getElem_cons_succ, List.getElem_cons_zero, List.setIfInBounds_toArray, List.set_cons_zero, List.set_cons_succ])
      refine wpAnyH_take (i := 17) (v := .slice (some ⟨lb, lo, none⟩) len cb) rfl (by kernel_rfl) (by kernel_rfl) (by kernel_rfl) (fun _ _ _ h => h) (Or.inl ⟨by rfl, ?_⟩) (by assumption) ?_
      · (intro w hSw; (try dsimp only at hSw); go_simp)
      (try simp only [Act.put, List.getElem_toArray, List.getElem_cons_succ, List.getElem_cons_zero, List.setIfInBounds_toArray, List.set_cons_zero, List.set_cons_succ])
      refine wpAnyH_take (i := 18) (v := .int .i64 (k : Int)) rfl (by kernel_rfl) (by kernel_rfl) (by kernel_rfl) (fun _ _ _ h => h) (Or.inl ⟨by rfl, ?_⟩) (by assumption) ?_
      · (intro w hSw; (try dsimp only at hSw); go_simp)
      (try simp only [Act.put, List.getElem_toArray, List.getElem_cons_succ, List.getElem_cons_zero, List.setIfInBounds_toArray, List.set_cons_zero, List.set_cons_succ])
      refine wpAnyH_take (i := 19) (v := .pointer (some ⟨lb, lo + k * 8, none⟩)) rfl (by kernel_rfl) (by kernel_rfl) (by kernel_rfl) (fun _ _ _ h => h) (Or.inl ⟨by rfl, ?_⟩) (by assumption) ?_
      · (intro w hSw; (try dsimp only at hSw); go_simp)
      (try simp only [Act.put, List.getElem_toArray, List.getElem_cons_succ, List.getElem_cons_zero, List.setIfInBounds_toArray, List.set_cons_zero, List.set_cons_succ])
      refine wpAnyH_take (i := 20) (v := .pointer (some ⟨lb, lo + k * 8 + 2, none⟩)) rfl (by kernel_rfl) (by kernel_rfl) (by kernel_rfl) (fun _ _ _ h => h) (Or.inl ⟨by rfl, ?_⟩) (by assumption) ?_
      · (intro w hSw; (try dsimp only at hSw); go_simp)
      (try simp only [Act.put, List.getElem_toArray, List.getElem_cons_succ, List.getElem_cons_zero, List.setIfInBounds_toArray, List.set_cons_zero, List.set_cons_succ])
      refine wpAnyH_take (i := 21) (v := .int .i64 x3) rfl (by kernel_rfl) (by kernel_rfl) (by kernel_rfl) (fun _ _ _ h => h) (Or.inl ⟨by rfl, ?_⟩) (by assumption) ?_
      · (intro w hSw; (try dsimp only at hSw); go_simp)
      (try simp only [Act.put, List.getElem_toArray, List.getElem_cons_succ, List.getElem_cons_zero, List.setIfInBounds_toArray, List.set_cons_zero, List.set_cons_succ])
      refine wpAnyH_take (i := 22) (v := .bool false) rfl (by kernel_rfl) (by kernel_rfl) (by kernel_rfl) (fun _ _ _ h => h) (Or.inl ⟨by rfl, ?_⟩) (by assumption) ?_
      · (intro w hSw; (try dsimp only at hSw); go_simp)
      (try simp only [Act.put, List.getElem_toArray, List.getElem_cons_succ, List.getElem_cons_zero, List.setIfInBounds_toArray, List.set_cons_zero, List.set_cons_succ])
      refine wpAnyH_take (i := 23) (v := .bool false) rfl (by kernel_rfl) (by kernel_rfl) (by kernel_rfl) (fun _ _ _ h => h) (Or.inl ⟨by rfl, ?_⟩) (by assumption) ?_
      · (intro w hSw; (try dsimp only at hSw); go_simp)
      (try simp only [Act.put, List.getElem_toArray, List.getElem_cons_succ, List.getElem_cons_zero, List.setIfInBounds_toArray, List.set_cons_zero, List.set_cons_succ])
      refine wpAnyH_take (i := 24) (v := .bool false) rfl (by kernel_rfl) (by kernel_rfl) (by kernel_rfl) (fun _ _ _ h => h) (Or.inl ⟨by rfl, ?_⟩) (by assumption) ?_
      · (intro w hSw; (try dsimp only at hSw); go_simp)
      (try simp only [Act.put, List.getElem_toArray, List.getElem_cons_succ, List.getElem_cons_zero, List.setIfInBounds_toArray, List.set_cons_zero, List.set_cons_succ])
      refine wpAnyH_take (i := 25) (v := .slice (some ⟨tb, tf, none⟩) len ca) rfl (by kernel_rfl) (by kernel_rfl) (by kernel_rfl) (fun _ _ _ h => h) (Or.inl ⟨by rfl, ?_⟩) (by assumption) ?_
      · (intro w hSw; (try dsimp only at hSw); go_simp)
      (try simp only [Act.put, List.getElem_toArray, List.getElem_cons_succ, List.getElem_cons_zero, List.setIfInBounds_toArray, List.set_cons_zero, List.set_cons_succ])
      refine wpAnyH_take (i := 26) (v := .int .i64 (k : Int)) rfl (by kernel_rfl) (by kernel_rfl) (by kernel_rfl) (fun _ _ _ h => h) (Or.inl ⟨by rfl, ?_⟩) (by assumption) ?_
      · (intro w hSw; (try dsimp only at hSw); go_simp)
      (try simp only [Act.put, List.getElem_toArray, List.getElem_cons_succ, List.getElem_cons_zero, List.setIfInBounds_toArray, List.set_cons_zero, List.set_cons_succ])
      refine wpAnyH_take (i := 27) (v := .pointer (some ⟨tb, tf + k * 8, none⟩)) rfl (by kernel_rfl) (by kernel_rfl) (by kernel_rfl) (fun _ _ _ h => h) (Or.inl ⟨by rfl, ?_⟩) (by assumption) ?_
      · (intro w hSw; (try dsimp only at hSw); go_simp)
      (try simp only [Act.put, List.getElem_toArray, List.getElem_cons_succ, List.getElem_cons_zero, List.setIfInBounds_toArray, List.set_cons_zero, List.set_cons_succ])
      refine wpAnyH_take (i := 28) (v := .pointer (some ⟨tb, tf + k * 8 + 4, none⟩)) rfl (by kernel_rfl) (by kernel_rfl) (by kernel_rfl) (fun _ _ _ h => h) (Or.inl ⟨by rfl, ?_⟩) (by assumption) ?_
      · (intro w hSw; (try dsimp only at hSw); go_simp)
      (try simp only [Act.put, List.getElem_toArray, List.getElem_cons_succ, List.getElem_cons_zero, List.setIfInBounds_toArray, List.set_cons_zero, List.set_cons_succ])
      refine wpAnyH_take (i := 29) (v := .int .i64 x5) rfl (by kernel_rfl) (by kernel_rfl) (by kernel_rfl) (fun _ _ _ h => h) (Or.inl ⟨by rfl, ?_⟩) (by assumption) ?_
      · (intro w hSw; (try dsimp only at hSw); go_simp)
      (try simp only [Act.put, List.getElem_toArray, List.getElem_cons_succ, List.getElem_cons_zero, List.setIfInBounds_toArray, List.set_cons_zero, List.set_cons_succ])
      refine wpAnyH_take (i := 30) (v := .slice (some ⟨lb, lo, none⟩) len cb) rfl (by kernel_rfl) (by kernel_rfl) (by kernel_rfl) (fun _ _ _ h => h) (Or.inl ⟨by rfl, ?_⟩) (by assumption) ?_
      · (intro w hSw; (try dsimp only at hSw); go_simp)
      (try simp only [Act.put, List.getElem_toArray, List.getElem_cons_succ, List.getElem_cons_zero, List.setIfInBounds_toArray, List.set_cons_zero, List.set_cons_succ])
      refine wpAnyH_take (i := 31) (v := .int .i64 (k : Int)) rfl (by kernel_rfl) (by kernel_rfl) (by kernel_rfl) (fun _ _ _ h => h) (Or.inl ⟨by rfl, ?_⟩) (by assumption) ?_
      · (intro w hSw; (try dsimp only at hSw); go_simp)
      (try simp only [Act.put, List.getElem_toArray, List.getElem_cons_succ, List.getElem_cons_zero, List.setIfInBounds_toArray, List.set_cons_zero, List.set_cons_succ])
      refine wpAnyH_take (i := 32) (v := .pointer (some ⟨lb, lo + k * 8, none⟩)) rfl (by kernel_rfl) (by kernel_rfl) (by kernel_rfl) (fun _ _ _ h => h) (Or.inl ⟨by rfl, ?_⟩) (by assumption) ?_
      · (intro w hSw; (try dsimp only at hSw); go_simp)
      (try simp only [Act.put, List.getElem_toArray, List.getElem_cons_succ, List.getElem_cons_zero, List.setIfInBounds_toArray, List.set_cons_zero, List.set_cons_succ])
      refine wpAnyH_take (i := 33) (v := .pointer (some ⟨lb, lo + k * 8 + 4, none⟩)) rfl (by kernel_rfl) (by kernel_rfl) (by kernel_rfl) (fun _ _ _ h => h) (Or.inl ⟨by rfl, ?_⟩) (by assumption) ?_
      · (intro w hSw; (try dsimp only at hSw); go_simp)
      (try simp only [Act.put, List.getElem_toArray, List.getElem_cons_succ, List.getElem_cons_zero, List.setIfInBounds_toArray, List.set_cons_zero, List.set_cons_succ])
      refine wpAnyH_take (i := 34) (v := .int .i64 x5) rfl (by kernel_rfl) (by kernel_rfl) (by kernel_rfl) (fun _ _ _ h => h) (Or.inl ⟨by rfl, ?_⟩) (by assumption) ?_
      · (intro w hSw; (try dsimp only at hSw); go_simp)
      (try simp only [Act.put, List.getElem_toArray, List.getElem_cons_succ, List.getElem_cons_zero, List.setIfInBounds_toArray, List.set_cons_zero, List.set_cons_succ])
      refine wpAnyH_take (i := 35) (v := .bool false) rfl (by kernel_rfl) (by kernel_rfl) (by kernel_rfl) (fun _ _ _ h => h) (Or.inl ⟨by rfl, ?_⟩) (by assumption) ?_
      · (intro w hSw; (try dsimp only at hSw); go_simp)
      (try simp only [Act.put, List.getElem_toArray, List.getElem_cons_succ, List.getElem_cons_zero, List.setIfInBounds_toArray, List.set_cons_zero, List.set_cons_succ])
      refine wpAnyH_take (i := 36) (v := .bool false) rfl (by kernel_rfl) (by kernel_rfl) (by kernel_rfl) (fun _ _ _ h => h) (Or.inl ⟨by rfl, ?_⟩) (by assumption) ?_
      · (intro w hSw; (try dsimp only at hSw); go_simp)
      (try simp only [Act.put, List.getElem_toArray, List.getElem_cons_succ, List.getElem_cons_zero, List.setIfInBounds_toArray, List.set_cons_zero, List.set_cons_succ])
      refine wpAnyH_take (i := 37) (v := .bool false) rfl (by kernel_rfl) (by kernel_rfl) (by kernel_rfl) (fun _ _ _ h => h) (Or.inl ⟨by rfl, ?_⟩) (by assumption) ?_
      · (intro w hSw; (try dsimp only at hSw); go_simp)
      (try simp only [Act.put, List.getElem_toArray, List.getElem_cons_succ, List.getElem_cons_zero, List.setIfInBounds_toArray, List.set_cons_zero, List.set_cons_succ])
      refine wpAnyH_take (i := 38) (v := .slice (some ⟨tb, tf, none⟩) len ca) rfl (by kernel_rfl) (by kernel_rfl) (by kernel_rfl) (fun _ _ _ h => h) (Or.inl ⟨by rfl, ?_⟩) (by assumption) ?_
      · (intro w hSw; (try dsimp only at hSw); go_simp)
      (try simp only [Act.put, List.getElem_toArray, List.getElem_cons_succ, List.getElem_cons_zero, List.setIfInBounds_toArray, List.set_cons_zero, List.set_cons_succ])
      refine wpAnyH_take (i := 39) (v := .int .i64 (k : Int)) rfl (by kernel_rfl) (by kernel_rfl) (by kernel_rfl) (fun _ _ _ h => h) (Or.inl ⟨by rfl, ?_⟩) (by assumption) ?_
      · (intro w hSw; (try dsimp only at hSw); go_simp)
      (try simp only [Act.put, List.getElem_toArray, List.getElem_cons_succ, List.getElem_cons_zero, List.setIfInBounds_toArray, List.set_cons_zero, List.set_cons_succ])
      refine wpAnyH_take (i := 40) (v := .pointer (some ⟨tb, tf + k * 8, none⟩)) rfl (by kernel_rfl) (by kernel_rfl) (by kernel_rfl) (fun _ _ _ h => h) (Or.inl ⟨by rfl, ?_⟩) (by assumption) ?_
      · (intro w hSw; (try dsimp only at hSw); go_simp)
      (try simp only [Act.put, List.getElem_toArray, List.getElem_cons_succ, List.getElem_cons_zero, List.setIfInBounds_toArray, List.set_cons_zero, List.set_cons_succ])
      refine wpAnyH_take (i := 41) (v := .pointer (some ⟨tb, tf + k * 8 + 3, none⟩)) rfl (by kernel_rfl) (by kernel_rfl) (by kernel_rfl) (fun _ _ _ h => h) (Or.inl ⟨by rfl, ?_⟩) (by assumption) ?_
      · (intro w hSw; (try dsimp only at hSw); go_simp)
      (try simp only [Act.put, List.getElem_toArray, List.getElem_cons_succ, List.getElem_cons_zero, List.setIfInBounds_toArray, List.set_cons_zero, List.set_cons_succ])
      refine wpAnyH_take (i := 42) (v := .slice sa sl sc) rfl (by kernel_rfl) (by kernel_rfl) (by kernel_rfl) (fun _ _ _ h => h) (Or.inl ⟨by rfl, ?_⟩) (by assumption) ?_
      · (intro w hSw; (try dsimp only at hSw); go_simp)
      (try simp only [Act.put, List.getElem_toArray, List.getElem_cons_succ, List.getElem_cons_zero, List.setIfInBounds_toArray, List.set_cons_zero, List.set_cons_succ])
      refine wpAnyH_take (i := 43) (v := .slice (some ⟨lb, lo, none⟩) len cb) rfl (by kernel_rfl) (by kernel_rfl) (by kernel_rfl) (fun _ _ _ h => h) (Or.inl ⟨by rfl, ?_⟩) (by assumption) ?_
      · (intro w hSw; (try dsimp only at hSw); go_simp)
      (try simp only [Act.put, List.getElem_toArray, List.getElem_cons_succ, List.getElem_cons_zero, List.setIfInBounds_toArray, List.set_cons_zero, List.set_cons_succ])
      refine wpAnyH_take (i := 44) (v := .int .i64 (k : Int)) rfl (by kernel_rfl) (by kernel_rfl) (by kernel_rfl) (fun _ _ _ h => h) (Or.inl ⟨by rfl, ?_⟩) (by assumption) ?_
      · (intro w hSw; (try dsimp only at hSw); go_simp)
      (try simp only [Act.put, List.getElem_toArray, List.getElem_cons_succ, List.getElem_cons_zero, List.setIfInBounds_toArray, List.set_cons_zero, List.set_cons_succ])
      refine wpAnyH_take (i := 45) (v := .pointer (some ⟨lb, lo + k * 8, none⟩)) rfl (by kernel_rfl) (by kernel_rfl) (by kernel_rfl) (fun _ _ _ h => h) (Or.inl ⟨by rfl, ?_⟩) (by assumption) ?_
      · (intro w hSw; (try dsimp only at hSw); go_simp)
      (try simp only [Act.put, List.getElem_toArray, List.getElem_cons_succ, List.getElem_cons_zero, List.setIfInBounds_toArray, List.set_cons_zero, List.set_cons_succ])
      refine wpAnyH_take (i := 46) (v := .pointer (some ⟨lb, lo + k * 8 + 3, none⟩)) rfl (by kernel_rfl) (by kernel_rfl) (by kernel_rfl) (fun _ _ _ h => h) (Or.inl ⟨by rfl, ?_⟩) (by assumption) ?_
      · (intro w hSw; (try dsimp only at hSw); go_simp)
      (try simp only [Act.put, List.getElem_toArray, List.getElem_cons_succ, List.getElem_cons_zero, List.setIfInBounds_toArray, List.set_cons_zero, List.set_cons_succ])
      refine wpAnyH_take (i := 47) (v := .slice ta sl tc) rfl (by kernel_rfl) (by kernel_rfl) (by kernel_rfl) (fun _ _ _ h => h) (Or.inl ⟨by rfl, ?_⟩) (by assumption) ?_
      · (intro w hSw; (try dsimp only at hSw); go_simp)
      (try simp only [Act.put, List.getElem_toArray, List.getElem_cons_succ, List.getElem_cons_zero, List.setIfInBounds_toArray, List.set_cons_zero, List.set_cons_succ])
      refine wpAnyH_ready (rs := [48]) (by kernel_rfl) (by simp) ?_
      refine AllReadyH.cons rfl (fun K hK => ?_) AllReadyH.nil
      go_simp
      refine (IT.out _ (Below.refl _ _).drew).mono ?_
      rintro e w3 ⟨rfl, b3'⟩
      replace rg_a0 := keepc b3' rg_a0
      replace rg_a2 := keepc b3' rg_a2
      replace rg_a3 := keepc b3' rg_a3
      replace rg_a4 := keepc b3' rg_a4
      replace rg_b0 := keepc b3' rg_b0
      replace rg_b2 := keepc b3' rg_b2
      replace rg_b3 := keepc b3' rg_b3
      replace rg_b4 := keepc b3' rg_b4
      refine hK.out _ _ ⟨rg_a0, rg_a2, rg_a3, rg_a4, rg_b0, rg_b2, rg_b3, rg_b4⟩ (fun hHeld => ?_)
      clear hK K
      (try simp only [Act.put, List.getElem_toArray, List.getElem_cons_succ, List.getElem_cons_zero, List.setIfInBounds_toArray, List.set_cons_zero, List.set_cons_succ])
      refine wpAnyH_take (i := 49) (v := .bool false) rfl (by kernel_rfl) (by kernel_rfl) (by kernel_rfl) (fun _ _ _ h => h) (Or.inl ⟨by rfl, ?_⟩) (by assumption) ?_
      · (intro w hSw; (try dsimp only at hSw); go_simp)
      (try simp only [Act.put, List.getElem_toArray, List.getElem_cons_succ, List.getElem_cons_zero, List.setIfInBounds_toArray, List.set_cons_zero, List.set_cons_succ])
      refine wpAnyH_take (i := 50) (v := .bool false) rfl (by kernel_rfl) (by kernel_rfl) (by kernel_rfl) (fun _ _ _ h => h) (Or.inl ⟨by rfl, ?_⟩) (by assumption) ?_
      · (intro w hSw; (try dsimp only at hSw); go_simp)
      (try simp only [Act.put, List.getElem_toArray, List.getElem_cons_succ, List.getElem_cons_zero, List.setIfInBounds_toArray, List.set_cons_zero, List.set_cons_succ])
      refine wpAnyH_done (by kernel_rfl) ?_ _
      clear hHeld rg_a0 rg_a2 rg_a3 rg_a4 rg_b0 rg_b2 rg_b3 rg_b4
      have B3 := hid (hB.out.trans (((Below.refl wr.heap.size wr).drew.trans b3').mono hB.out.size))
      clear b3'
      go_wp2
      go_roundw
      case rel => exact ⟨k + 1, by omega, by go_num, B3⟩
      case measure => simp [intOf]; omega
    · go_wp2
      go_ret
      exact ⟨rfl, hB.out⟩

end Go.Proofs.Ytikalkigmnipiaa
