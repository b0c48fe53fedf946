/- CommandStates: for every state the law answers true, and it reads as it did. No further conditions. -/
import Derived.Test.YtkjglpgjflkmbaaMEJ
import Derived.Test.YtkjglpgjflkmbaaMED
import Derived.Test.YtkjglpgjflkmbaaMCZ
namespace Go.Proofs.Ytkjglpgjflkmbaa.commandStates
open Go.ChangeShapes Go.WideShapes Go.ChangeAt Go.RowKit Go.Deep Go.Maps
set_option linter.unusedVariables false
set_option linter.unusedSimpArgs false

/-- What a state holds. -/
def StH (w : World) (qa : Option Addr) (qn qc : Nat) (qs : List Q7) (na : Option Addr) (nn nc : Nat) (ns : List N5) (ta : Option Addr) (tn tc : Nat) (ts : List T7) (la : Option Addr) (ln lc : Nat) (ls : List Le) (ha : Option Addr) (hn hc : Nat) (hs : List H2) : Prop :=
  (HoldsE 7 Q7.cs w qa qn qc qs ∧ ∀ x ∈ qs, x.ok) ∧ (HoldsE 5 N5.cs w na nn nc ns ∧ ∀ x ∈ ns, x.ok) ∧ (HoldsE 7 T7.cs w ta tn tc ts ∧ TaAll w ts) ∧ (HoldsE 8 Le.cs w la ln lc ls ∧ LeAll w ls) ∧ (HoldsE 2 H2.cs w ha hn hc hs ∧ ∀ x ∈ hs, x.ok)
theorem StH.below {w w' : World} {qa : Option Addr} {qn qc : Nat} {qs : List Q7} {na : Option Addr} {nn nc : Nat} {ns : List N5} {ta : Option Addr} {tn tc : Nat} {ts : List T7} {la : Option Addr} {ln lc : Nat} {ls : List Le} {ha : Option Addr} {hn hc : Nat} {hs : List H2} (h : StH w qa qn qc qs na nn nc ns ta tn tc ts la ln lc ls ha hn hc hs) (b : Below w.heap.size w w') : StH w' qa qn qc qs na nn nc ns ta tn tc ts la ln lc ls ha hn hc hs :=
  ⟨⟨h.1.1.below b, h.1.2⟩, ⟨h.2.1.1.below b, h.2.1.2⟩, ⟨h.2.2.1.1.below b, fun x hx => ⟨(h.2.2.1.2 x hx).1.below b, (h.2.2.1.2 x hx).2⟩⟩, ⟨h.2.2.2.1.1.below b, fun x hx => ⟨(h.2.2.2.1.2 x hx).1.below b, (h.2.2.2.1.2 x hx).2⟩⟩, ⟨h.2.2.2.2.1.below b, h.2.2.2.2.2⟩⟩
theorem map_same {α β : Type} (f : α → β) {xs ys : List α} (hl : xs.length = ys.length) (h : ∀ k (g1 : k < xs.length) (g2 : k < ys.length), f xs[k] = f ys[k]) : xs.map f = ys.map f :=
  List.ext_getElem (by simpa using hl) (by intro k h1 h2; simp only [List.getElem_map]; exact h k (by simpa using h1) (by simpa using h2))
theorem listW_same {α : Type} {en : α → List Int} {xs ys : List α} (hl : xs.length = ys.length) (h : ∀ k (g1 : k < xs.length) (g2 : k < ys.length), en xs[k] = en ys[k]) : listW en ys = listW en xs := by
  have e := map_same en hl h
  unfold listW listE
  rw [List.flatMap_def, List.flatMap_def, e, hl]
theorem flW_same {α : Type} {fl : α → Bool} {xs ys : List α} (hl : xs.length = ys.length) (h : ∀ k (g1 : k < xs.length) (g2 : k < ys.length), fl xs[k] = fl ys[k]) : flW fl ys = flW fl xs := by
  have e := map_same fl hl h
  have e2 : ∀ zs : List α, zs.any fl = (zs.map fl).any id := fun zs => by rw [List.any_map]; rfl
  unfold flW
  rw [e2 ys, e2 xs, e, hl]
theorem ta_z {x y : T7} (h : TaSame x y) : t7Z x = t7Z y := by obtain ⟨a, b, c, d, e, f, g, i⟩ := h; unfold t7Z; rw [a, b, c, d, e, g, i]
theorem ta_l {x y : T7} (h : TaSame x y) : t7L x = t7L y := by obtain ⟨a, b, c, d, e, f, g, i⟩ := h; unfold t7L; rw [f]
theorem ta_k {x y : T7} (h : TaSame x y) (k : x.ok) : y.ok := by obtain ⟨a, b, c, d, e, f, g, i⟩ := h; unfold T7.ok at *; rw [← a, ← b, ← c, ← d, ← e, ← g, ← i]; exact k
theorem ta_s {x y : T7} (h : TaSame x y) : TaSame y x := by obtain ⟨a, b, c, d, e, f, g, i⟩ := h; exact ⟨a.symm, b.symm, c.symm, d.symm, e.symm, f.symm, g.symm, i.symm⟩
theorem le_z {x y : Le} (h : LeSame x y) : leZ x = leZ y := by obtain ⟨a, b, c, d, e, f, g, i, j⟩ := h; unfold leZ; rw [a, b, c, e, f, g, i, j]
theorem le_l {x y : Le} (h : LeSame x y) : leL x = leL y := by obtain ⟨a, b, c, d, e, f, g, i, j⟩ := h; unfold leL; rw [d]
theorem le_k {x y : Le} (h : LeSame x y) (k : x.okA) : y.okA := by obtain ⟨a, b, c, d, e, f, g, i, j⟩ := h; unfold Le.okA at *; rw [← a, ← b, ← c, ← e, ← f, ← g, ← j]; exact k
theorem le_s {x y : Le} (h : LeSame x y) : LeSame y x := by obtain ⟨a, b, c, d, e, f, g, i, j⟩ := h; exact ⟨a.symm, b.symm, c.symm, d.symm, e.symm, f.symm, g.symm, i.symm, j.symm⟩
theorem all_same {α : Type} {P : α → Prop} {S : α → α → Prop} {xs ys : List α} (hl : xs.length = ys.length) (h : ∀ k (g1 : k < xs.length) (g2 : k < ys.length), S xs[k] ys[k]) (hp : ∀ x ∈ xs, P x) (hs : ∀ x y, S x y → P x → P y) : ∀ y ∈ ys, P y := by
  intro y hy
  obtain ⟨k, hk, rfl⟩ := List.getElem_of_mem hy
  exact hs _ _ (h k (by omega) hk) (hp _ (List.getElem_mem _))

set_option maxRecDepth 100000 in
theorem enc_twin (lo pa no : Int) (qb : Option Addr) (qn qd : Nat) (qs : List Q7) (nb : Option Addr) (nn nd : Nat) (ns : List N5) (tb : Option Addr) (tn td : Nat) (ts ts' : List T7) (lb : Option Addr) (ln ld : Nat) (ls ls' : List Le) (hb : Option Addr) (hn hd : Nat) (hs : List H2) (w : World) (hi : I64 lo ∧ I64 pa ∧ I64 no) (h : StH w qb qn qd qs nb nn nd ns tb tn td ts' lb ln ld ls' hb hn hd hs) (e1 : listW t7Z ts' = listW t7Z ts) (e2 : flW t7L ts' = flW t7L ts) (e3 : listW leZ ls' = listW leZ ls) (e4 : flW leL ls' = flW leL ls) :
    Calls Try.prog 19 #[.agg #[.int .i64 lo, .int .i64 pa, .int .i64 no, .slice qb qn qd, .slice nb nn nd, .slice tb tn td, .slice lb ln ld, .slice hb hn hd]] w fun e w' => ∃ v, e = .returned (.tuple #[v, .int .i64 (lngE (flW (fun _ => false) qs || (flW (fun _ => false) ns || (flW t7L ts || (flW leL ls || flW (fun _ => false) hs)))))]) ∧ ((flW (fun _ => false) qs || (flW (fun _ => false) ns || (flW t7L ts || (flW leL ls || flW (fun _ => false) hs)))) = false → Own w.heap.size w' v (bytesZ [lo, pa, no] ++ (listW q7Z qs ++ (listW n5Z ns ++ (listW t7Z ts ++ (listW leZ ls ++ listW h2Z hs))))).length (bytesZ [lo, pa, no] ++ (listW q7Z qs ++ (listW n5Z ns ++ (listW t7Z ts ++ (listW leZ ls ++ listW h2Z hs)))))) ∧ ((flW (fun _ => false) qs || (flW (fun _ => false) ns || (flW t7L ts || (flW leL ls || flW (fun _ => false) hs)))) = true → v = .slice none 0 0) ∧ Below w.heap.size w w' := by
  have := encstate_any lo pa no qb qn qd qs nb nn nd ns tb tn td ts' lb ln ld ls' hb hn hd hs w hi.1 hi.2.1 hi.2.2 h.1.1 h.1.2 h.2.1.1 h.2.1.2 h.2.2.1.1 h.2.2.1.2 h.2.2.2.1.1 h.2.2.2.1.2 h.2.2.2.2.1 h.2.2.2.2.2
  rw [e1, e2, e3, e4] at this
  exact this

set_option maxRecDepth 100000 in
set_option maxHeartbeats 8000000 in
theorem walk1 (lo pa no : Int) (qa : Option Addr) (qn qc : Nat) (qs : List Q7) (na : Option Addr) (nn nc : Nat) (ns : List N5) (ta : Option Addr) (tn tc : Nat) (ts : List T7) (la : Option Addr) (ln lc : Nat) (ls : List Le) (ha : Option Addr) (hn hc : Nat) (hs : List H2) (w : World) (hi : I64 lo ∧ I64 pa ∧ I64 no) (h : StH w qa qn qc qs na nn nc ns ta tn tc ts la ln lc ls ha hn hc hs) (sz : qc * 56 ≤ 140737488351232 ∧ nc * 40 ≤ 140737488351232 ∧ (tc * 72 ≤ 140737488351232 ∧ ∀ q ∈ ts, q.sc * 8 ≤ 140737488351232) ∧ (lc * 80 ≤ 140737488351232 ∧ ∀ q ∈ ls, q.sc * 8 ≤ 140737488351232) ∧ hc * 16 ≤ 140737488351232) :
    Calls Try.prog 5 #[.agg #[.int .i64 lo, .int .i64 pa, .int .i64 no, .slice qa qn qc, .slice na nn nc, .slice ta tn tc, .slice la ln lc, .slice ha hn hc]] w fun e w' => e = .returned (.bool true) ∧ Below w.heap.size w w' := by
  have LT := hid h.2.2.1.1.1
  have LS := hid h.2.2.2.1.1.1
  have KT := hid (fun x hx => (h.2.2.1.2 x hx).2)
  have KL := hid (fun x hx => (h.2.2.2.1.2 x hx).2)
  have MT : Hid (∀ x ∈ ts, x.sl ≤ 140737488355328) := fun x hx => by have := (h.2.2.1.2 x hx).1.2.1; have := sz.2.2.1.2 x hx; omega
  have ML : Hid (∀ x ∈ ls, x.sl ≤ 140737488355328) := fun x hx => by have := (h.2.2.2.1.2 x hx).1.2.1; have := sz.2.2.2.1.2 x hx; omega
  have KQ := hid h.1.2
  have KN := hid h.2.1.2
  have KH := hid h.2.2.2.2.2
  have TWI := hid (fun W (H : StH W qa qn qc qs na nn nc ns ta tn tc ts la ln lc ls ha hn hc hs) => tstate_any lo pa no qa qn qc qs na nn nc ns ta tn tc ts la ln lc ls ha hn hc hs W H.1.1 H.2.1.1 H.2.2.1.1 (fun x hx => (H.2.2.1.2 x hx).1) H.2.2.2.1.1 (fun x hx => (H.2.2.2.1.2 x hx).1) H.2.2.2.2.1 sz)
  have REF := hid (fun W (H : StH W qa qn qc qs na nn nc ns ta tn tc ts la ln lc ls ha hn hc hs) => rstate_any lo pa no qa qn qc qs na nn nc ns ta tn tc ts la ln lc ls ha hn hc hs W hi.1 hi.2.1 hi.2.2 H.1.1 H.1.2 H.2.1.1 H.2.1.2 H.2.2.1.1 H.2.2.1.2 H.2.2.2.1.1 H.2.2.2.1.2 H.2.2.2.2.1 H.2.2.2.2.2)
  have ENC := hid (fun W qb qd nb nd tb td ts' lb ld ls' hb hd => enc_twin lo pa no qb qn qd qs nb nn nd ns tb tn td ts ts' lb ln ld ls ls' hb hn hd hs W hi)
  have HH := hid h
  clear h hi sz
  generalize hby : (bytesZ [lo, pa, no] ++ (listW q7Z qs ++ (listW n5Z ns ++ (listW t7Z ts ++ (listW leZ ls ++ listW h2Z hs))))) = BS at *
  generalize hfl : (flW (fun _ => false) qs || (flW (fun _ => false) ns || (flW t7L ts || (flW leL ls || flW (fun _ => false) hs)))) = FL at *
  clear hby hfl
  generalize hle : lngE FL = EE at *
  clear hle
  go_enter Try.func5, Try.ntmps5
  go_upto_region 1 with fail
  have B0 := hid ((Below.refl w.heap.size w).alloc (Nat.le_refl _) (.cells #[.int .i64 lo, .int .i64 pa, .int .i64 no, .slice qa qn qc, .slice na nn nc, .slice ta tn tc, .slice la ln lc, .slice ha hn hc] 54))
  have X1 := hid (Blk.alloc w #[.int .i64 lo, .int .i64 pa, .int .i64 no, .slice qa qn qc, .slice na nn nc, .slice ta tn tc, .slice la ln lc, .slice ha hn hc] (54))
  replace HH := hid (HH.out.below B0.out)
  generalize (w.alloc (.cells #[.int .i64 lo, .int .i64 pa, .int .i64 no, .slice qa qn qc, .slice na nn nc, .slice ta tn tc, .slice la ln lc, .slice ha hn hc] 54)) = W0 at *
  have AW := hid (awake10_any W0)
  go_wp2_with fail
  with_reducible refine AW.out.mono ?_
  rintro e W1 ⟨rfl, b1⟩
  replace X1 := hid (X1.out.below b1)
  replace HH := hid (HH.out.below b1)
  replace B0 := hid (B0.out.trans (b1.mono B0.out.size))
  clear AW b1
  have LD := X1.out.loadAt Try.underlying54 rfl sizeSta
  have C1 := hid (TWI.out W1 HH.out)
  go_wp2_with (refine wpList_load_at 54 rfl (.tmp 1) rfl _ _ rfl _ LD ?_)
  with_reducible refine C1.out.mono ?_
  rintro e W2 ⟨qb, qd, nb, nd, tb, td, ts', lb, ld, ls', hb, hd, rfl, p1, p2, ⟨p3, p4, p5⟩, ⟨p6, p7, p8⟩, p9, b2⟩
  have lt : ts.length = ts'.length := by rw [LT.out]; exact p3.1.symm
  have ll : ls.length = ls'.length := by rw [LS.out]; exact p6.1.symm
  have HV : Hid (StH W2 qb qn qd qs nb nn nd ns tb tn td ts' lb ln ld ls' hb hn hd hs) := ⟨⟨p1, KQ.out⟩, ⟨p2, KN.out⟩, ⟨p3, fun x hx => ⟨p4 x hx, all_same lt p5 KT.out (fun _ _ => ta_k) x hx⟩⟩, ⟨p6, fun x hx => ⟨p7 x hx, all_same ll p8 KL.out (fun _ _ => le_k) x hx⟩⟩, ⟨p9, KH.out⟩⟩
  have TS := hid p5
  have LSS := hid p8
  have LTT := hid lt
  have LLL := hid ll
  have ENC2 := hid (fun W (H : StH W qb qn qd qs nb nn nd ns tb tn td ts' lb ln ld ls' hb hn hd hs) => ENC.out W qb qd nb nd tb td ts' lb ld ls' hb hd H (listW_same lt (fun k g1 g2 => ta_z (p5 k g1 g2))) (flW_same lt (fun k g1 g2 => ta_l (p5 k g1 g2))) (listW_same ll (fun k g1 g2 => le_z (p8 k g1 g2))) (flW_same ll (fun k g1 g2 => le_l (p8 k g1 g2))))
  replace X1 := hid (X1.out.below b2)
  replace HH := hid (HH.out.below b2)
  replace B0 := hid (B0.out.trans (b2.mono B0.out.size))
  clear LD C1 b2 TWI p1 p2 p3 p4 p5 p6 p7 p8 p9 ENC lt ll
  go_upto_region 4 with (refine wpList_store_row rfl 54 (.tmp 3) (.tmp 11) rfl W2.heap.size #[.int .i64 lo, .int .i64 pa, .int .i64 no, .slice qb qn qd, .slice nb nn nd, .slice tb tn td, .slice lb ln ld, .slice hb hn hd] rfl rfl 54 _ (heap_alloc_new W2 _) sizeSta rfl (by simp [Value.oneCell']) ?_)
  rw [alloc_row]
  have b3 := (Below.refl W2.heap.size W2).alloc (Nat.le_refl _) (.cells #[.int .i64 lo, .int .i64 pa, .int .i64 no, .slice qb qn qd, .slice nb nn nd, .slice tb tn td, .slice lb ln ld, .slice hb hn hd] 54)
  have X2 := hid (Blk.alloc W2 #[.int .i64 lo, .int .i64 pa, .int .i64 no, .slice qb qn qd, .slice nb nn nd, .slice tb tn td, .slice lb ln ld, .slice hb hn hd] (54))
  replace X1 := hid (X1.out.below b3)
  replace HH := hid (HH.out.below b3)
  replace HV := hid (HV.out.below b3)
  replace B0 := hid (B0.out.trans (b3.mono B0.out.size))
  clear b3
  generalize W2.alloc (.cells #[.int .i64 lo, .int .i64 pa, .int .i64 no, .slice qb qn qd, .slice nb nn nd, .slice tb tn td, .slice lb ln ld, .slice hb hn hd] 54) = W3 at *
  generalize W2.heap.size = QV at *
  have C2 := hid (ENC2.out W3 HV.out)
  have LD := X2.out.loadAt Try.underlying54 rfl sizeSta
  go_wp2_with (refine wpList_load_at 54 rfl (.tmp 3) rfl _ _ rfl _ LD ?_)
  with_reducible refine C2.out.mono ?_
  rintro e W4 ⟨v4, rfl, g4, g4', b4⟩
  replace X1 := hid (X1.out.below b4)
  replace X2 := hid (X2.out.below b4)
  replace HH := hid (HH.out.below b4)
  replace HV := hid (HV.out.below b4)
  replace B0 := hid (B0.out.trans (b4.mono B0.out.size))
  have G4 := hid g4
  have G4' := hid g4'
  clear LD C2 b4 g4 g4' ENC2
  have C3 := hid (REF.out W4 HH.out)
  have LD := X1.out.loadAt Try.underlying54 rfl sizeSta
  go_wp2_with (refine wpList_load_at 54 rfl (.tmp 1) rfl _ _ rfl _ LD ?_)
  with_reducible refine C3.out.mono ?_
  rintro e W5 ⟨v5, rfl, g5, g5', b5⟩
  replace X1 := hid (X1.out.below b5)
  replace X2 := hid (X2.out.below b5)
  replace HH := hid (HH.out.below b5)
  replace HV := hid (HV.out.below b5)
  replace B0 := hid (B0.out.trans (b5.mono B0.out.size))
  have SAME : Hid (∃ a4 n4 c4 a5 n5 c5 l, v4 = .slice a4 n4 c4 ∧ v5 = .slice a5 n5 c5 ∧ HoldsB W5 a4 n4 c4 l ∧ HoldsB W5 a5 n5 c5 l) := by
    cases FL
    · have o4 := (G4.out rfl).below' b5
      have o5 := g5 rfl
      obtain ⟨a4, c4, rfl⟩ := o4.form
      obtain ⟨a5, c5, rfl⟩ := o5.form
      exact ⟨a4, _, c4, a5, _, c5, BS, rfl, rfl, o4.holds, o5.holds⟩
    · exact ⟨none, 0, 0, none, 0, 0, [], G4'.out rfl, g5' rfl, holdsB_none _, holdsB_none _⟩
  clear LD C3 b5 g5 g5' G4 G4' REF
  obtain ⟨a4, n4, c4, a5, n5, c5, l, rfl, rfl, hb4, hb5⟩ := SAME.out
  have C4 := hid (bytes_same _ _ _ _ _ _ _ _ hb4 hb5)
  clear SAME hb4 hb5
  go_wp2_with fail
  with_reducible refine C4.out.mono ?_
  rintro e W6 ⟨rfl, rfl⟩
  clear C4
  have C5 := hid (sstate_any lo pa no qb qa qn qd qc qs nb na nn nd nc ns tb ta tn td tc ts' ts lb la ln ld lc ls' ls hb ha hn hd hc hs W5 HV.out.1.1 HH.out.1.1 HV.out.2.1.1 HH.out.2.1.1 HV.out.2.2.1.1 HH.out.2.2.1.1 (fun x hx => (HV.out.2.2.1.2 x hx).1) (fun x hx => (HH.out.2.2.1.2 x hx).1) (fun k g1 g2 => ta_s (TS.out k g2 g1)) (all_same LTT.out TS.out MT.out (fun x y s m => by rw [← s.2.2.2.2.2.1]; exact m)) HV.out.2.2.2.1.1 HH.out.2.2.2.1.1 (fun x hx => (HV.out.2.2.2.1.2 x hx).1) (fun x hx => (HH.out.2.2.2.1.2 x hx).1) (fun k g1 g2 => le_s (LSS.out k g2 g1)) (all_same LLL.out LSS.out ML.out (fun x y s m => by rw [← s.2.2.2.1]; exact m)) HV.out.2.2.2.2.1 HH.out.2.2.2.2.1)
  have LD1 := X1.out.loadAt Try.underlying54 rfl sizeSta
  have LD2 := X2.out.loadAt Try.underlying54 rfl sizeSta
  go_wp2_with (first | refine wpList_load_at 54 rfl (.tmp 3) rfl _ _ rfl _ LD2 ?_ | refine wpList_load_at 54 rfl (.tmp 1) rfl _ _ rfl _ LD1 ?_)
  with_reducible refine C5.out.mono ?_
  rintro e W7 ⟨rfl, b7⟩
  replace B0 := hid (B0.out.trans (b7.mono B0.out.size))
  clear C5 LD1 LD2 b7
  go_wp2_with fail
  go_ret
  exact ⟨rfl, B0.out⟩

theorem walk (lo pa no : Int) (qa : Option Addr) (qn qc : Nat) (qs : List Q7) (na : Option Addr) (nn nc : Nat) (ns : List N5) (ta : Option Addr) (tn tc : Nat) (ts : List T7) (la : Option Addr) (ln lc : Nat) (ls : List Le) (ha : Option Addr) (hn hc : Nat) (hs : List H2) (w : World) (hi : I64 lo ∧ I64 pa ∧ I64 no) (hq : HoldsE 7 Q7.cs w qa qn qc qs ∧ ∀ x ∈ qs, x.ok) (hm : HoldsE 5 N5.cs w na nn nc ns ∧ ∀ x ∈ ns, x.ok) (ht : HoldsE 7 T7.cs w ta tn tc ts ∧ TaAll w ts) (hl : HoldsE 8 Le.cs w la ln lc ls ∧ LeAll w ls) (hg : HoldsE 2 H2.cs w ha hn hc hs ∧ ∀ x ∈ hs, x.ok) (sz : qc * 56 ≤ 140737488351232 ∧ nc * 40 ≤ 140737488351232 ∧ (tc * 72 ≤ 140737488351232 ∧ ∀ q ∈ ts, q.sc * 8 ≤ 140737488351232) ∧ (lc * 80 ≤ 140737488351232 ∧ ∀ q ∈ ls, q.sc * 8 ≤ 140737488351232) ∧ hc * 16 ≤ 140737488351232) :
    Calls Try.prog 5 #[.agg #[.int .i64 lo, .int .i64 pa, .int .i64 no, .slice qa qn qc, .slice na nn nc, .slice ta tn tc, .slice la ln lc, .slice ha hn hc]] w fun e w' => e = .returned (.bool true) ∧ Below w.heap.size w w' :=
  walk1 lo pa no qa qn qc qs na nn nc ns ta tn tc ts la ln lc ls ha hn hc hs w hi ⟨hq, hm, ht, hl, hg⟩ sz

theorem own : ownKnob Try.prog.godebug = none := by kernel_rfl
theorem laidOut : laidOutB Try.prog = true := by kernel_rfl

set_option maxRecDepth 100000 in
theorem lifted (os : Os) (started : os.Started) (H : Type) (enc : TypeId × Value → H) :
    ReturnsInHanded {} Try.checked os 5 .any (Rows.commandStatesSpec.pre6 enc Try.prog Try.f5 Rows.commandStatesRow.domain false) (Rows.commandStatesSpec.post enc Try.prog Try.f5 false true false false) := by
  refine returnsInHanded_of_change_sized (C := Try.checked) own started (by kernel_rfl) Try.func5
    (ChangeSpec.witness6 (enc := enc) (C := Try.checked) false ⟨#[], #[.agg #[.int .i64 0, .int .i64 0, .int .i64 0, .slice none 0 0, .slice none 0 0, .slice none 0 0, .slice none 0 0, .slice none 0 0]], []⟩ 8 (by kernel_rfl) (by kernel_rfl) (by kernel_rfl) (by kernel_rfl)) ?_
  intro W base args ds gs before hval0 hW hcnd hsz0 _
  have hsz : (DataW.weightsEach Try.prog (Try.f5.params.toList ++ Rows.commandStatesSpec.plain.varTypes Try.prog) (ds ++ gs)).all (· ≤ reachBytes) = true := hsz0
  have hval : ∀ (j : Nat) t v, Try.f5.params[j]? = some t → args[j]? = some v → Value.okWide Try.prog W .any base t v := hval0
  have hW' := hW
  obtain ⟨p, q, hA0, hV, rfl, hfz, hnd⟩ := hW
  have hA : DataW.TrodAll enc Try.prog W 0 (fun _ => true) true Try.f5.params.toList args.toList ds p := hA0
  rw [Try.params5] at hA hval hsz
  obtain ⟨v0, vs0, d0, ds0, p0, q0, hargs, rfl, rfl, h0, r0⟩ := trodAll_cons hA
  obtain ⟨rfl, rfl, rfl⟩ := trodAll_nil r0
  obtain rfl : args = #[v0] := by cases args; simp_all
  obtain ⟨rfl, rfl⟩ := trodVars_none hV
  have lt0 : ∀ x ∈ p0, x.block < W.heap.size := by obtain ⟨m, hm⟩ := h0; exact DataW.trod_lt m _ _ _ hm
  obtain ⟨lo0, pa0, no0, qa0, qn0, qc0, qs0, na0, nn0, nc0, ns0, ta0, tn0, tc0, ts0, la0, ln0, lc0, ls0, ha0, hn0, hc0, hs0, rfl, w0, q0, m0, t0, l0, g0, sz0⟩ := val_state (hval 0 54 v0 rfl rfl) h0
  have s0 := sz0 (by rw [List.all_eq_true]; intro n hn; exact (List.all_eq_true.1 hsz) n (DataW.weights_mem_each (j := 0) rfl rfl n hn))
  clear hA0 hval0
  refine (walk lo0 pa0 no0 qa0 qn0 qc0 qs0 na0 nn0 nc0 ns0 ta0 tn0 tc0 ts0 la0 ln0 lc0 ls0 ha0 hn0 hc0 hs0 W w0 q0 m0 t0 l0 g0 s0).mono fun e W' ⟨he, bel⟩ => ?_
  subst he
  exact ⟨_, rfl, _, _, _, [], _, [], hW', trodAll_mk1 (shut_bool Try.underlying4 _), (trodAll_cons_mk (Below.trod laidOut (by kernel_rfl) (of_decide_eq_true (by kernel_rfl)) h0 bel lt0) trodAll_mk0), rfl, bel.frame _, fun h => by cases h⟩

theorem over : Rows.commandStatesRow.holds Try.pinned (OpenSpec.ofChange Rows.commandStatesSpec) :=
  OpenClaim.holds_of_wide 5 Try.f5 rfl rfl rfl rfl rfl rfl rfl ⟨rfl, rfl, rfl, rfl, rfl⟩ rfl rfl rfl rfl rfl (by kernel_rfl) Try.func5 (by kernel_rfl)
    (of_decide_eq_true (by kernel_rfl)) (by unfold Func.isWrapper; first | (rw [if_pos (by decide +kernel)]; kernel_rfl) | (rw [if_neg (by decide +kernel)]; exact ⟨rfl, rfl⟩))
    (fun os started H enc _ => lifted os started H enc)

theorem proved : Rows.CommandStatesSaid := over
end Go.Proofs.Ytkjglpgjflkmbaa.commandStates
