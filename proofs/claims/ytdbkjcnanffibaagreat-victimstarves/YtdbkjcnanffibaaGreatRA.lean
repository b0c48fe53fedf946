/-
  The document's answer for queues: children, leaves, paths, all below a queue.
-/
import Derived.Test.YtdbkjcnanffibaaGreatQW
import Derived.Test.YtdbkjcnanffibaaGreatQR
import Derived.Test.YtdbkjcnanffibaaGreatQS
namespace Go.Proofs.YtdbkjcnanffibaaGreat
open Go.RowKit Go.Deep Go.Maps Go.Shelf
set_option linter.unusedVariables false

theorem encN_one (x : Int) : ∀ u ∈ encN x, u.oneCell' = true := by intro u hu; simp [encN] at hu; subst hu; rfl

section
variable {ops : Array Oper} {rest : List Oper} {o : Oper} {a : Act} {Q : Exit → Act → World → Prop}
/-- 'append(m, x)' of numbers. -/
theorem push_ownN (wr : World) (x : Int) (hg : o.guard = none) (s y : Operand) (hop : o.op = Op.call { callee := Callee.builtin Builtin.append, args := #[s, y], argTypes := #[26, 26] })
    (base n : Nat) (v : Value) (l : List Int) (hs : a.eval s = v) (hown : OwnN base wr v n l) (hb : base ≤ wr.heap.size) (hx : a.eval y = .slice (some ⟨wr.heap.size, 0, none⟩) 1 1) (b1 : n + 1 ≤ 1000000)
    (hK : ∀ v' w', OwnN base w' v' (n + 1) (l ++ [x]) → Below base wr w' → wr.grownBy w' v.ownBlock → wpList Tryz.prog ops Q rest (a.put o.dst v') w') :
    wpList Tryz.prog ops Q (o :: rest) a (wr.alloc (.cells #[.int .i64 x] 3)) :=
  push_ownE 26 3 (.int .i64 0) 8 encN_len encN_one Tryz.underlying26 infoN rfl (by decide) wr x hg s y hop base n v l _ rfl hs hown hb hx (by omega) (by omega) hK
end

theorem idsAt_snoc {l : List Qu} (ps : List (Fin l.length)) (x : Fin l.length) : idsAt l (ps ++ [x]) = idsAt l ps ++ [(qa l x.val).id] := by unfold idsAt; simp

set_option maxRecDepth 100000 in
set_option maxHeartbeats 2000000 in
theorem rchildren_any (b off len cap : Nat) (l : List Qu) (id : Int) (w : World) (h : HoldsQ w (some ⟨b, off, none⟩) len cap l) (hp : 0 < len) (hm : len ≤ 64) :
    Calls Tryz.prog 39 #[.slice (some ⟨b, off, none⟩) len cap, .int .i64 id] w fun e w' => ∃ v, e = .returned v ∧ AnsN w.heap.size w' v (idsAt l (kids l id)) ∧ Below w.heap.size w w' := by
  have HL := hid h.1
  have hcap := h.2.1
  obtain ⟨b', off', e, R⟩ := h.row hp
  cases e
  have HR := hid R
  clear R h
  go_enter Tryz.func39, Tryz.ntmps39
  go_wp2_with fail
  go_loopw [5, 10] (fun m i wr => ∃ k : Nat, k ≤ len ∧ i = .int .i64 k ∧ Hid (OwnN w.heap.size wr m (kidsTo l id k).length (idsAt l (kidsTo l id k))) ∧ Below w.heap.size w wr) (fun _ i _ => len - (intOf i).toNat)
  case atStart => exact ⟨0, by omega, rfl, OwnE.nil _ _ _ _ _, Below.refl _ _⟩
  case round =>
    obtain ⟨k, hk, rfl, ho, hB⟩ := hrel
    by_cases hlt : k < len
    · have hlt' : k < l.length := by rw [HL.out]; exact hlt
      obtain ⟨c0, c1, c2, c3, c4, c5, c6⟩ := (HR.out.below hB).2 k hlt'
      by_cases hx : (qa l k).par = id
      · have tx : ((qa l k).par == id) = true := by simpa using hx
        have K1 := hid (kidsTo_yes hlt' hx)
        have K2 := hid (idsAt_snoc (kidsTo l id k) ⟨k, hlt'⟩)
        have K3 : (kidsTo l id k).length ≤ 64 := by
          have := (kidsTo_pre l id k).length_le
          have := filter_len (l := l) (p := fun i => decide ((qa l i).par = id)) (by rw [HL.out]; exact hm)
          unfold kids at *
          omega
        clear hx
        simp only at K2
        generalize qa l k = q at *
        obtain ⟨q1, q2, q3, q4, q5, q6, q7⟩ := q
        simp only at *
        have ho2 : Hid (OwnN w.heap.size (wr.alloc (.cells #[.int .i64 q1, .int .i64 q2, .int .i64 q3, .int .i64 q4, .int .i64 q5, .int .i64 q6, .int .i64 q7] 38)) u5 (kidsTo l id k).length (idsAt l (kidsTo l id k))) := ho.out.below ((Below.refl _ _).alloc (Nat.le_refl _) _)
        have hB2 : Below w.heap.size w (wr.alloc (.cells #[.int .i64 q1, .int .i64 q2, .int .i64 q3, .int .i64 q4, .int .i64 q5, .int .i64 q6, .int .i64 q7] 38)) := hB.alloc hB.size _
        go_wp2_with (at_builtin; refine push_ownN (wr.alloc (.cells #[.int .i64 q1, .int .i64 q2, .int .i64 q3, .int .i64 q4, .int .i64 q5, .int .i64 q6, .int .i64 q7] 38)) q1 rfl (.tmp 18) (.tmp 21) rfl w.heap.size (kidsTo l id k).length u5 (idsAt l (kidsTo l id k)) rfl ho2.out hB2.size (by simp [Act.eval]) (by omega) ?_)
        intro v' w1 h1 h2 _
        have O1 := hid h1
        have hB3 := hB2.trans h2
        clear h1 h2
        go_wp2
        go_roundw
        case rel => exact ⟨k + 1, by omega, by go_num, by rw [K1.out, K2.out, List.length_append]; exact O1.out, hB3⟩
        case measure => simp [intOf]; omega
      · have tx : ((qa l k).par == id) = false := by simpa using hx
        have K1 := hid (kidsTo_no hlt' hx)
        clear hx
        generalize qa l k = q at *
        obtain ⟨q1, q2, q3, q4, q5, q6, q7⟩ := q
        simp only at *
        go_wp2
        go_roundw
        case rel => exact ⟨k + 1, by omega, by go_num, by rw [K1.out]; exact ho.out.below ((Below.refl _ _).alloc (Nat.le_refl _) _), hB.alloc hB.size _⟩
        case measure => simp [intOf]; omega
    · have E : Hid (kidsTo l id k = kids l id) := by have e : k = l.length := (by rw [HL.out]; omega)
                                                     unfold Hid; rw [e]; exact kidsTo_all l id
      rw [E.out] at ho
      go_wp2
      go_ret
      exact ⟨_, rfl, ansN_of ho.out, hB⟩

/-- Is a queue that is there a leaf? -/
theorem leafB_ids {l : List Qu} {id : Int} : (((idsAt l (kids l id)).length : Int) == 0) = leafB l id := by
  unfold leafB idsAt
  cases kids l id with
  | nil => rfl
  | cons x y => simp; omega

set_option maxHeartbeats 1000000 in
theorem rleaf_any (b off len cap : Nat) (l : List Qu) (id : Int) (w : World) (h : HoldsQ w (some ⟨b, off, none⟩) len cap l) (hp : 0 < len) (hm : len ≤ 64) :
    Calls Tryz.prog 17 #[.slice (some ⟨b, off, none⟩) len cap, .int .i64 id] w fun e w' => e = .returned (.bool (hasQ l id && leafB l id)) ∧ Below w.heap.size w w' := by
  have HH := hid h
  have H1 := hid (rhas_any _ len cap l id w h)
  clear h
  cases hx : hasQ l id
  · rw [hx] at H1
    go_enter Tryz.func17, Tryz.ntmps17
    go_wp2_with fail
    refine H1.out.mono ?_
    rintro e w1 ⟨rfl, b1⟩
    go_wp2
    go_ret
    exact ⟨rfl, b1⟩
  · rw [hx] at H1
    have E := hid (leafB_ids (l := l) (id := id))
    go_enter Tryz.func17, Tryz.ntmps17
    go_wp2_with fail
    refine H1.out.mono ?_
    rintro e w1 ⟨rfl, b1⟩
    go_wp2_with fail
    refine (rchildren_any b off len cap l id w1 (HH.out.below b1) hp hm).mono ?_
    rintro e w2 ⟨v2, rfl, o2, b2⟩
    unfold AnsN at o2
    obtain ⟨a2, c2, rfl⟩ := o2.form
    have hB2 := b1.trans (b2.mono b1.size)
    clear o2 b2
    generalize (idsAt l (kids l id)).length = n at *
    go_wp2
    go_ret
    exact ⟨retb E.out, hB2⟩

set_option maxRecDepth 100000 in
set_option maxHeartbeats 2000000 in
theorem rpath_any (b off len cap : Nat) (l : List Qu) (id : Int) (w : World) (h : HoldsQ w (some ⟨b, off, none⟩) len cap l) (hm : len ≤ 64) (hF : Form l) (hi : pl l id < l.length) :
    Calls Tryz.prog 78 #[.slice (some ⟨b, off, none⟩) len cap, .int .i64 id] w fun e w' => ∃ v, e = .returned v ∧ AnsN w.heap.size w' v ((pth l (pl l id)).map (fun i => (qa l i).id)) ∧ Below w.heap.size w w' := by
  have HL := hid h.1
  have HH := hid h
  have HF := hid hF
  have e0 : Hid ((qa l (pl l id)).id = id) := pl_id hi
  have PL : (pth l (pl l id)).length ≤ 64 := by have := pth_len (l := l) (pl l id); have := h.1; omega
  generalize hP : pl l id = P at *
  clear hP h
  go_enter Tryz.func78, Tryz.ntmps78
  go_wp2_with fail
  go_loopw [1, 5] (fun v m wr => ∃ pre : List Nat, ((∃ j, j < l.length ∧ v = .int .i64 (qa l j).id ∧ Hid (pre ++ pth l j = pth l P)) ∨ (v = .int .i64 (-1) ∧ Hid (pre = pth l P))) ∧ Hid (OwnN w.heap.size wr m pre.length (pre.map (fun i => (qa l i).id))) ∧ Below w.heap.size w wr) (fun v _ _ => (intOf v + 1).toNat)
  case atStart => exact ⟨[], .inl ⟨P, hi, by rw [e0.out], by simp [Hid]⟩, OwnE.nil _ _ _ _ _, Below.refl _ _⟩
  case round =>
    obtain ⟨pre, hv, ho, hB⟩ := hrel
    rcases hv with ⟨j, hj', rfl, hpre⟩ | ⟨rfl, hpre⟩
    · have hnn := HF.out.id_nonneg hj'
      have tn : decide ((0 : Int) ≤ (qa l j).id) = true := by simp; omega
      have hlen : pre.length + 1 ≤ 64 := by have := congrArg List.length hpre.out; rw [List.length_append, pth] at this; simp at this; omega
      have PJ := hid (HF.out.pl hj')
      have hpf := run_par
      have SN : Hid ((pre ++ [j]).map (fun i => (qa l i).id) = pre.map (fun i => (qa l i).id) ++ [(qa l j).id]) := by simp [Hid]
      by_cases hz : j = 0
      · have rt := HF.out.root
        have PE : Hid (pre ++ [j] = pth l P) := by
          rw [← hpre.out, pth_root (by subst hz; omega)]; rfl
        have par : Hid ((qa l j).par = -1) := by subst hz; exact rt.2
        have nn : Hid (-1 < (qa l j).id) := by unfold Hid; omega
        clear hpre rt hz
        have FD := hid (fun W (hW : Below w.heap.size w W) => find_any _ len cap l (qa l j).id W (HH.out.below hW) (by rw [HF.out.pl hj', ← HL.out]; exact hj'))
        rw [PJ.out] at FD
        generalize qa l j = q at *
        obtain ⟨q1, q2, q3, q4, q5, q6, q7⟩ := q
        simp only at *
        go_wp2_with (at_builtin; refine push_ownN wr q1 rfl (.tmp 8) (.tmp 10) rfl w.heap.size pre.length u5 _ rfl ho.out hB.size rfl (by omega) ?_)
        intro v' w1 h1 h2 _
        have O1 := hid h1
        have hB1 := hB.trans h2
        clear h1 h2
        go_wp2_with fail
        refine (FD.out w1 hB1).mono ?_
        rintro e w2 ⟨rfl, b2⟩
        rw [qv, par.out]
        have O2 := hid (O1.out.below b2)
        have hB2 := hB1.trans (b2.mono hB1.size)
        clear b2
        go_wp2
        go_roundw
        case rel => exact ⟨pre ++ [j], .inr ⟨rfl, PE⟩, by rw [SN.out, List.length_append]; exact O2.out, hB2⟩
        case measure => have := nn.out; simp [intOf]; omega
      · have up := HF.out.up hj' hz
        have hpl : pl l (qa l j).par < l.length := by omega
        have PE : Hid ((pre ++ [j]) ++ pth l (pl l (qa l j).par) = pth l P) := by
          rw [← hpre.out, pth_step up, List.append_assoc]; rfl
        have par : Hid ((qa l j).par = (qa l (pl l (qa l j).par)).id) := (pl_id hpl).symm
        have nn : Hid ((qa l j).par < (qa l j).id) := by unfold Hid; rw [par.out]; exact HF.out.rise up hj'
        have pn : Hid (0 ≤ (qa l j).par) := HF.out.par_nonneg hj' hz
        clear hpre hz
        have FD := hid (fun W (hW : Below w.heap.size w W) => find_any _ len cap l (qa l j).id W (HH.out.below hW) (by rw [HF.out.pl hj', ← HL.out]; exact hj'))
        rw [PJ.out] at FD
        obtain ⟨p', hp'⟩ : ∃ p', p' = pl l (qa l j).par := ⟨_, rfl⟩
        rw [← hp'] at PE par hpl
        clear up hp'
        generalize qa l j = q at *
        obtain ⟨q1, q2, q3, q4, q5, q6, q7⟩ := q
        simp only at *
        go_wp2_with (at_builtin; refine push_ownN wr q1 rfl (.tmp 8) (.tmp 10) rfl w.heap.size pre.length u5 _ rfl ho.out hB.size rfl (by omega) ?_)
        intro v' w1 h1 h2 _
        have O1 := hid h1
        have hB1 := hB.trans h2
        clear h1 h2
        go_wp2_with fail
        refine (FD.out w1 hB1).mono ?_
        rintro e w2 ⟨rfl, b2⟩
        rw [qv]
        have O2 := hid (O1.out.below b2)
        have hB2 := hB1.trans (b2.mono hB1.size)
        clear b2
        go_wp2
        go_roundw
        case rel => exact ⟨pre ++ [j], .inl ⟨p', hpl, by rw [← par.out], PE⟩, by rw [SN.out, List.length_append]; exact O2.out, hB2⟩
        case measure => have := nn.out; have := pn.out; simp [intOf]; omega
    · have E : Hid (AnsN w.heap.size wr u5 ((pth l P).map (fun i => (qa l i).id))) := by
        have := ho.out
        unfold Hid AnsN
        rw [← hpre.out, List.length_map]
        exact this
      go_wp2
      go_ret
      exact ⟨_, rfl, E.out, hB⟩

end Go.Proofs.YtdbkjcnanffibaaGreat
