/-
  Contracts of victim: what leaves use, as a list.
-/
import Derived.Test.YtdbkjcnanffibaaUB
import Derived.Test.YtdbkjcnanffibaaUC
import Derived.Test.YtdbkjcnanffibaaQV
namespace Go.Proofs.Ytdbkjcnanffibaa
open Go.RowKit Go.Deep Go.Maps Go.Shelf
set_option linter.unusedVariables false
set_option linter.unusedSimpArgs false

theorem infoUse : (Try.prog.info? 45).map (fun i => (i.zero, i.size, i.bytes)) = some (some (.agg #[.int .i64 0, .int .i64 0, .int .i64 0]), 3, 24) := by kernel_rfl
/-- The uses of a row of queues. -/
def usesOf (g : Int → Int × Int) (ids : List Int) : List Us := ids.map (fun q => ⟨q, (g q).1, (g q).2⟩)
theorem usesOf_len (g : Int → Int × Int) (ids : List Int) : (usesOf g ids).length = ids.length := by simp [usesOf]
theorem usesOf_snoc (g : Int → Int × Int) {ids : List Int} {j : Nat} (h : j < ids.length) : usesOf g (ids.take (j + 1)) = usesOf g (ids.take j) ++ [⟨ids[j]?.getD 0, (g (ids[j]?.getD 0)).1, (g (ids[j]?.getD 0)).2⟩] := by
  unfold usesOf
  rw [List.take_add_one, List.getElem?_eq_getElem h]
  simp only [Option.toList_some, List.map_append, List.map_cons, List.map_nil, Option.getD_some]
theorem own_ids {base : Nat} {w : World} {v : Value} {ids : List Int} (h : w.ownsRow base 3 1 v ids.length (ids.map encZ)) : OwnN base w v ids.length ids := by
  refine ⟨rfl, ?_⟩
  have e : ids.flatMap encN = ids.map encZ := by
    clear h
    induction ids with
    | nil => rfl
    | cons x r ih => rw [List.flatMap_cons, ih]; rfl
  rw [e]; exact h

set_option maxRecDepth 100000 in
set_option maxHeartbeats 4000000 in
theorem ulist_any {b n : Nat} {h : Int → Bool} {g : Int → Int × Int} (w : World) (hU : UM w b n h g) (hn : n * 24 ≤ 140737488355328) :
    Calls Try.prog 22 #[.map (some b)] w fun e w' => ∃ v ids, e = .returned v ∧ RiseOf h ids ∧ ids.length ≤ n ∧ OwnE 45 3 Us.cs w.heap.size w' v ids.length (usesOf g ids) ∧ Below w.heap.size w w' := by
  have KA := hid (ukeys_any (some b) w)
  have SA := hid (usorted_any w hU (by omega))
  have HU := hid hU
  have BA := hid ((Below.refl w.heap.size w).alloc (Nat.le_refl _) (.cells #[.map (some b)] 56))
  clear hU
  go_enter Try.func22, Try.ntmps22
  go_wp2_with fail
  refine (KA.out).mono ?_
  rintro e w1 ⟨rfl, rfl⟩
  go_wp2_with fail
  refine (SA.out).mono ?_
  rintro e w2 ⟨v, ids, rfl, hR, hle, hrow, hnil, hb2⟩
  have O2 := hid (own_ids hrow)
  have R2 := hid hR
  have B2 := hid (BA.out.trans (hb2.mono BA.out.size))
  clear hrow hnil hb2 hR SA KA
  obtain ⟨ia, ic, rfl⟩ := O2.out.form
  have I2 := hid (O2.out.holds encN_len)
  clear O2 BA
  go_wp2_with fail
  go_loopw [3, 10] (fun s i wr => ∃ j : Nat, j ≤ ids.length ∧ i = .int .i64 (j : Int) ∧ Hid (OwnE 45 3 Us.cs w2.heap.size wr s j (usesOf g (ids.take j))) ∧ Hid (Below w2.heap.size w2 wr)) (fun s i _ => ids.length - (intOf i).toNat)
  case atStart => exact ⟨0, by omega, rfl, OwnE.nil _ _ _ _ _, Below.refl _ _⟩
  case round =>
    obtain ⟨j, hj, rfl, hO, hB⟩ := hrel
    by_cases hlt : j < ids.length
    · obtain ⟨ib, io, rfl, RI⟩ := I2.out.rowN (by omega)
      have c0 := keepc hB.out (RI j hlt)
      have hq : I64 (ids[j]?.getD 0) := R2.out.2.2 _ (by rw [List.getElem?_eq_getElem hlt]; exact List.getElem_mem hlt)
      have LK := ((HU.out.below B2.out).below hB.out).look hq
      have SN := hid (usesOf_snoc g hlt)
      have ka : (0 : Int) ≤ (j : Int) := by omega
      have kb : (j : Int) < (ids.length : Int) := by omega
      clear RI
      generalize ids[j]?.getD 0 = q at *
      generalize hg : g q = p at *
      obtain ⟨p1, p2⟩ := p
      simp only at LK SN
      go_wp2_with (at_builtin; refine push_ownE 24 45 _ 24 Us.cs_len Us.one Try.underlying24 infoUse rfl (by decide) wr ⟨q, p1, p2⟩ rfl (.tmp 14) (.tmp 20) rfl w2.heap.size j u3 _ _ rfl rfl hO.out hB.out.size rfl (by omega) (by omega) ?_)
      intro v' w1 h1 h2 _
      have O1 := hid h1
      have hB1 := hid (hB.out.trans h2)
      clear h1 h2
      go_wp2_with fail
      refine ⟨⟨j + 1, by omega, by go_num, by rw [SN.out]; exact O1, hB1⟩, ?_⟩
      simp [intOf]; omega
    · obtain rfl : j = ids.length := by omega
      have O := hid hO.out
      rw [List.take_length] at O
      go_wp2_with fail
      go_ret
      exact ⟨_, ids, rfl, R2.out, hle, O.out.weaken B2.out.size, B2.out.trans (hB.out.mono B2.out.size)⟩
end Go.Proofs.Ytdbkjcnanffibaa
