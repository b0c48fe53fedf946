/-
  Contracts of command: an answer, a state are written.
  Contracts of furlongref10: a lease's bytes.
  Contracts of furlongref10: a list of leases; are leases short?
  Contracts of command: an answer, a state are encoded.
-/
import Derived.Test.YthkbddnkcljjpaaMEA
import Derived.Test.YthkbddnkcljjpaaCZV
import Derived.Test.YthkbddnkcljjpaaMCA
import Derived.Test.YthkbddnkcljjpaaMCH
namespace Go.Proofs.Ythkbddnkcljjpaa
open Go.RowKit Go.Deep Go.Maps
set_option linter.unusedVariables false
set_option linter.unusedSimpArgs false

/-- A lease, a task, a queue, a node, a hunger as they are written. -/
def leZ (x : Le) : List Int := leaseZ x.ta x.qu x.no x.co x.me x.si x.un x.st
def t7Z (x : T7) : List Int := taskZ x.t1 x.t2 x.c x.m x.wk x.tk x.st
def q7Z (x : Q7) : List Int := bytesZ [x.a, x.b, x.c, x.d, x.e, x.f, x.g]
def n5Z (x : N5) : List Int := bytesZ [x.a, x.b, x.c, x.d, x.e]
def h2Z (x : H2) : List Int := bytesZ [x.a, x.b]
def leL (x : Le) : Bool := decide (1024 < x.sl)
def t7L (x : T7) : Bool := decide (1024 < x.sl)
/-- All numbers of a lease. -/
def Le.okA (x : Le) : Prop := (I64 x.ta ∧ I64 x.qu ∧ I64 x.no ∧ I64 x.me ∧ I64 x.si ∧ I64 x.un) ∧ ∀ z ∈ x.co, I64 z
theorem lease_el (p : Nat) (w0 : World) (hp : w0.heap.size ≤ p) (x : Le) (hc : HoldsN w0 x.sa x.sl x.sc x.co) (hk : x.okA) (W : World) (v : Value) (l : List Int) (lg bz : Bool) (h : Wr W p v l lg bz) (hb : Below w0.heap.size w0 W) (hm : l.length + 9500 ≤ 140737488355328) :
    Calls Try.prog 74 #[.pointer (some ⟨p, 0, none⟩), .agg x.cs.toArray] W fun e w' => (∃ r, e = .returned r) ∧ ∃ v', Wr w' p v' (l ++ leZ x) (lg || leL x) bz ∧ WK p v W w' v' :=
  clease_any p x.ta x.qu x.no x.sa x.sl x.sc x.co x.me x.si x.un x.st W v l lg bz h hk.1.1 hk.1.2.1 hk.1.2.2.1 hk.1.2.2.2.1 hk.1.2.2.2.2.1 hk.1.2.2.2.2.2 (hc.toP hb hp) hk.2 hm
theorem task_el (p : Nat) (w0 : World) (hp : w0.heap.size ≤ p) (x : T7) (hc : HoldsN w0 x.sa x.sl x.sc x.tk) (hk : x.ok) (W : World) (v : Value) (l : List Int) (lg bz : Bool) (h : Wr W p v l lg bz) (hb : Below w0.heap.size w0 W) (hm : l.length + 9500 ≤ 140737488355328) :
    Calls Try.prog 81 #[.pointer (some ⟨p, 0, none⟩), .agg x.cs.toArray] W fun e w' => (∃ r, e = .returned r) ∧ ∃ v', Wr w' p v' (l ++ t7Z x) (lg || t7L x) bz ∧ WK p v W w' v' :=
  ctask_any p x.t1 x.t2 x.c x.m x.wk x.sa x.sl x.sc x.tk x.st W v l lg bz h hk.1.1 hk.1.2.1 hk.1.2.2.1 hk.1.2.2.2.1 hk.1.2.2.2.2.1 hk.1.2.2.2.2.2 (hc.toP hb hp) hk.2 (by omega)
theorem queue_el (p : Nat) (w0 : World) (x : Q7) (hk : x.ok) (W : World) (v : Value) (l : List Int) (lg bz : Bool) (h : Wr W p v l lg bz) (hb : Below w0.heap.size w0 W) (hm : l.length + 63 ≤ 140737488355328) :
    Calls Try.prog 77 #[.pointer (some ⟨p, 0, none⟩), .agg x.cs.toArray] W fun e w' => (∃ r, e = .returned r) ∧ ∃ v', Wr w' p v' (l ++ q7Z x) (lg || false) bz ∧ WK p v W w' v' := by
  rw [Bool.or_false]
  exact cqueue_any p x.a x.b x.c x.d x.e x.f x.g W v l lg bz h hk.1 hk.2.1 hk.2.2.1 hk.2.2.2.1 hk.2.2.2.2.1 hk.2.2.2.2.2.1 hk.2.2.2.2.2.2 hm
theorem node_el (p : Nat) (w0 : World) (x : N5) (hk : x.ok) (W : World) (v : Value) (l : List Int) (lg bz : Bool) (h : Wr W p v l lg bz) (hb : Below w0.heap.size w0 W) (hm : l.length + 45 ≤ 140737488355328) :
    Calls Try.prog 79 #[.pointer (some ⟨p, 0, none⟩), .agg x.cs.toArray] W fun e w' => (∃ r, e = .returned r) ∧ ∃ v', Wr w' p v' (l ++ n5Z x) (lg || false) bz ∧ WK p v W w' v' := by
  rw [Bool.or_false]
  exact cnode_any p x.a x.b x.c x.d x.e W v l lg bz h hk.1 hk.2.1 hk.2.2.1 hk.2.2.2.1 hk.2.2.2.2 hm
theorem hunger_el (p : Nat) (w0 : World) (x : H2) (hk : x.ok) (W : World) (v : Value) (l : List Int) (lg bz : Bool) (h : Wr W p v l lg bz) (hb : Below w0.heap.size w0 W) (hm : l.length + 18 ≤ 140737488355328) :
    Calls Try.prog 83 #[.pointer (some ⟨p, 0, none⟩), .agg x.cs.toArray] W fun e w' => (∃ r, e = .returned r) ∧ ∃ v', Wr w' p v' (l ++ h2Z x) (lg || false) bz ∧ WK p v W w' v' := by
  rw [Bool.or_false]
  exact chunger_any p x.a x.b W v l lg bz h hk.1 hk.2 hm
theorem leZ_len (x : Le) : (leZ x).length ≤ 9500 := by have := leaseZ_len x.ta x.qu x.no x.co x.me x.si x.un x.st; unfold leZ; omega
theorem t7Z_len (x : T7) : (t7Z x).length ≤ 9500 := by have := taskZ_len x.t1 x.t2 x.c x.m x.wk x.tk x.st; unfold t7Z; omega
theorem q7Z_len (x : Q7) : (q7Z x).length ≤ 63 := bytesZ_len _
theorem n5Z_len (x : N5) : (n5Z x).length ≤ 45 := bytesZ_len _
theorem h2Z_len (x : H2) : (h2Z x).length ≤ 18 := bytesZ_len _
theorem listW_len {α : Type} {en : α → List Int} {M : Nat} {xs : List α} (h : ∀ x, (en x).length ≤ M) : (listW en xs).length ≤ 9 + 1024 * M := by
  unfold listW
  split
  · simp
  · have h1 := flat_le (xs := xs) (fun x _ => h x)
    have h2 := shelf_le (xs.length : Int)
    have h3 : xs.length * M ≤ 1024 * M := Nat.mul_le_mul_right M (by omega)
    unfold listE
    rw [List.length_append, numB_len]; omega
theorem Q7.cs_len (x : Q7) : x.cs.length = 7 := rfl
theorem N5.cs_len (x : N5) : x.cs.length = 5 := rfl
theorem T7.cs_len (x : T7) : x.cs.length = 7 := rfl
theorem H2.cs_len (x : H2) : x.cs.length = 2 := rfl
theorem Q7.one (x : Q7) : ∀ u ∈ x.cs, u.oneCell' = true := by
  intro u hu; simp [Q7.cs] at hu; rcases hu with rfl | rfl | rfl | rfl | rfl | rfl | rfl <;> rfl
theorem N5.one (x : N5) : ∀ u ∈ x.cs, u.oneCell' = true := by
  intro u hu; simp [N5.cs] at hu; rcases hu with rfl | rfl | rfl | rfl | rfl <;> rfl
theorem T7.one (x : T7) : ∀ u ∈ x.cs, u.oneCell' = true := by
  intro u hu; simp [T7.cs] at hu; rcases hu with rfl | rfl | rfl | rfl | rfl | rfl | rfl <;> rfl
theorem H2.one (x : H2) : ∀ u ∈ x.cs, u.oneCell' = true := by
  intro u hu; simp [H2.cs] at hu; rcases hu with rfl | rfl <;> rfl
/-- Lists of leases, of tasks that came in. -/
def LeAll (w0 : World) (ls : List Le) : Prop := ∀ x ∈ ls, HoldsN w0 x.sa x.sl x.sc x.co ∧ x.okA
def TaAll (w0 : World) (ts : List T7) : Prop := ∀ x ∈ ts, HoldsN w0 x.sa x.sl x.sc x.tk ∧ x.ok
set_option maxRecDepth 100000 in
set_option maxHeartbeats 8000000 in
theorem canswer_any (p : Nat) (er at' an : Int) (ca : Option Addr) (cn cc : Nat) (co : List Int) (la : Option Addr) (ln lc : Nat) (ls : List Le) (w0 w : World) (v : Value) (l : List Int) (lg bz : Bool) (h : Wr w p v l lg bz) (hb : Below w0.heap.size w0 w) (hp : w0.heap.size ≤ p) (ier : I64 er) (iat : I64 at') (ian : I64 an) (hco : HoldsN w0 ca cn cc co) (hcx : ∀ x ∈ co, I64 x) (hls : HoldsE 8 Le.cs w0 la ln lc ls) (hla : LeAll w0 ls) (hm : l.length + 20000000 ≤ 140737488355328) :
    Calls Try.prog 40 #[.pointer (some ⟨p, 0, none⟩), .agg #[.int .i64 er, .int .i64 at', .int .i64 an, .slice ca cn cc, .slice la ln lc]] w fun e w' => (∃ r, e = .returned r) ∧ ∃ v', Wr w' p v' (l ++ (bytesZ [er] ++ (bytesZ [at', an] ++ (listZ co ++ listW leZ ls)))) (lg || (decide (1024 < cn) || flW leL ls)) bz ∧ WK p v w w' v' := by
  have HW := hid h
  have HB := hid hb
  have HP := hid hp
  have PL := hid h.lt
  have hPP := h.lt
  have HRO := h.row
  go_enter Try.func40, Try.ntmps40
  go_upto_region 1 with fail
  have K0 : Hid (WK p v w (w.alloc (.cells #[.int .i64 er, .int .i64 at', .int .i64 an, .slice ca cn cc, .slice la ln lc] 46)) v) := WK.of_below ((Below.refl _ w).alloc (Nat.le_refl _) _)
  have H0 := hid (HW.out.below ((Below.refl w.heap.size w).alloc (Nat.le_refl _) (.cells #[.int .i64 er, .int .i64 at', .int .i64 an, .slice ca cn cc, .slice la ln lc] 46)))
  have BX := hid (Box.alloc w #[.int .i64 er, .int .i64 at', .int .i64 an, .slice ca cn cc, .slice la ln lc] (46))
  have NB0 : v.ownBlock ≠ some w.heap.size := fun e => by have := HRO _ e; omega
  have hQp : w.heap.size ≠ p := by omega
  have hQl : w.heap.size < (w.alloc (.cells #[.int .i64 er, .int .i64 at', .int .i64 an, .slice ca cn cc, .slice la ln lc] 46)).heap.size := by simp
  have D0 := hid (HB.out.alloc HB.out.size (.cells #[.int .i64 er, .int .i64 at', .int .i64 an, .slice ca cn cc, .slice la ln lc] 46))
  have P0 : Hid (p < (w.alloc (.cells #[.int .i64 er, .int .i64 at', .int .i64 an, .slice ca cn cc, .slice la ln lc] 46)).heap.size) := Nat.lt_trans PL.out hQl
  clear HW HRO h hb hp hPP HB PL
  generalize (w.alloc (.cells #[.int .i64 er, .int .i64 at', .int .i64 an, .slice ca cn cc, .slice la ln lc] 46)) = W0 at *
  generalize w.heap.size = QK at *
  have C1 := hid (errs_lit p [er] W0 v l _ _ H0.out #[.int .i64 er] rfl 1 rfl (by decide) (by intro x hx; simp only [List.mem_cons, List.not_mem_nil, or_false] at hx; rcases hx with rfl <;> assumption) (by omega))
  have y0 := BX.out 0 (.int .i64 er) rfl
  go_wp2_with fail
  with_reducible refine C1.out.mono ?_
  clear y0
  rintro e W1 ⟨⟨r1, rfl⟩, v1, h1, k1⟩
  replace BX := hid (BX.out.wk k1 hQp NB0)
  have hQl1 := Nat.lt_of_lt_of_le hQl k1.size
  have NB1 : v1.ownBlock ≠ some QK := fun e => by rcases k1.row _ e with e | e; exact NB0 e; have := hQl; omega
  have D1 := hid (D0.out.trans ((k1.below P0.out (fun g e => (H0.out.row g e).1)).mono HP.out))
  have P1 := hid (Nat.lt_of_lt_of_le P0.out k1.size)
  have H1 := hid h1
  have K1 := hid (K0.out.trans k1)
  clear C1 h1 k1 H0 K0 D0 P0
  have C2 := hid (ints_lit p [at', an] W1 v1 (l ++ bytesZ [er]) _ _ H1.out #[.int .i64 at', .int .i64 an] rfl 2 rfl (by decide) (by intro x hx; simp only [List.mem_cons, List.not_mem_nil, or_false] at hx; rcases hx with rfl | rfl <;> assumption) (by have := bytesZ_len [er]; simp only [List.length_append, List.length_cons, List.length_nil] at *; omega))
  have y1 := BX.out 1 (.int .i64 at') rfl
  have y2 := BX.out 2 (.int .i64 an) rfl
  go_wp2_with fail
  with_reducible refine C2.out.mono ?_
  clear y1 y2
  rintro e W2 ⟨⟨r2, rfl⟩, v2, h2, k2⟩
  replace BX := hid (BX.out.wk k2 hQp NB1)
  have hQl2 := Nat.lt_of_lt_of_le hQl1 k2.size
  have NB2 : v2.ownBlock ≠ some QK := fun e => by rcases k2.row _ e with e | e; exact NB1 e; have := hQl1; omega
  have D2 := hid (D1.out.trans ((k2.below P1.out (fun g e => (H1.out.row g e).1)).mono HP.out))
  have P2 := hid (Nat.lt_of_lt_of_le P1.out k2.size)
  have H2 := hid h2
  have K2 := hid (K1.out.trans k2)
  clear C2 h2 k2 H1 K1 D1 P1
  have C3 := hid (clist_any p ca cn cc co W2 v2 ((l ++ bytesZ [er]) ++ bytesZ [at', an]) _ _ H2.out (hco.toP D2.out HP.out) hcx (by have := bytesZ_len [er]; have := bytesZ_len [at', an]; simp only [List.length_append, List.length_cons, List.length_nil] at *; omega))
  have y3 := BX.out 3 (.slice ca cn cc) rfl
  go_wp2_with fail
  with_reducible refine C3.out.mono ?_
  clear y3
  rintro e W3 ⟨⟨r3, rfl⟩, v3, h3, k3⟩
  replace BX := hid (BX.out.wk k3 hQp NB2)
  have hQl3 := Nat.lt_of_lt_of_le hQl2 k3.size
  have NB3 : v3.ownBlock ≠ some QK := fun e => by rcases k3.row _ e with e | e; exact NB2 e; have := hQl2; omega
  have D3 := hid (D2.out.trans ((k3.below P2.out (fun g e => (H2.out.row g e).1)).mono HP.out))
  have P3 := hid (Nat.lt_of_lt_of_le P2.out k3.size)
  have H3 := hid h3
  have K3 := hid (K2.out.trans k3)
  clear C3 h3 k3 H2 K2 D2 P2
  have C4 := hid (wlLease Le.cs Le.cs_len Le.one leZ leL 9500 p la ln lc ls w0 W3 v3 (((l ++ bytesZ [er]) ++ bytesZ [at', an]) ++ listZ co) _ _ H3.out D3.out HP.out hls (fun x hx => lease_el p w0 HP.out x (hla x hx).1 (hla x hx).2) (fun x _ => leZ_len x) (by have := listZ_len co; have := bytesZ_len [er]; have := bytesZ_len [at', an]; simp only [List.length_append, List.length_cons, List.length_nil] at *; omega))
  have y4 := BX.out 4 (.slice la ln lc) rfl
  go_wp2_with fail
  with_reducible refine C4.out.mono ?_
  clear y4
  rintro e W4 ⟨⟨r4, rfl⟩, v4, h4, k4⟩
  replace BX := hid (BX.out.wk k4 hQp NB3)
  have hQl4 := Nat.lt_of_lt_of_le hQl3 k4.size
  have NB4 : v4.ownBlock ≠ some QK := fun e => by rcases k4.row _ e with e | e; exact NB3 e; have := hQl3; omega
  have D4 := hid (D3.out.trans ((k4.below P3.out (fun g e => (H3.out.row g e).1)).mono HP.out))
  have P4 := hid (Nat.lt_of_lt_of_le P3.out k4.size)
  have H4 := hid h4
  have K4 := hid (K3.out.trans k4)
  clear C4 h4 k4 H3 K3 D3 P3
  go_wp2_with fail
  first | go_end0 | (refine bodyPost_ret (results_none rfl _ _ _) rfl ?_)
  have HF := H4.out
  simp only [List.append_assoc, Bool.or_assoc, Bool.or_false] at HF
  exact ⟨⟨_, rfl⟩, _, HF, K4.out⟩
set_option maxRecDepth 100000 in
set_option maxHeartbeats 8000000 in
theorem cstate_any (p : Nat) (lo pa no : Int) (qa : Option Addr) (qn qc : Nat) (qs : List Q7) (na : Option Addr) (nn nc : Nat) (ns : List N5) (ta : Option Addr) (tn tc : Nat) (ts : List T7) (la : Option Addr) (ln lc : Nat) (ls : List Le) (ha : Option Addr) (hn hc : Nat) (hs : List H2) (w0 w : World) (v : Value) (l : List Int) (lg bz : Bool) (h : Wr w p v l lg bz) (hb : Below w0.heap.size w0 w) (hp : w0.heap.size ≤ p) (ilo : I64 lo) (ipa : I64 pa) (ino : I64 no) (hqs : HoldsE 7 Q7.cs w0 qa qn qc qs) (hqk : ∀ x ∈ qs, x.ok) (hns : HoldsE 5 N5.cs w0 na nn nc ns) (hnk : ∀ x ∈ ns, x.ok) (hts : HoldsE 7 T7.cs w0 ta tn tc ts) (hta : TaAll w0 ts) (hls : HoldsE 8 Le.cs w0 la ln lc ls) (hla : LeAll w0 ls) (hhs : HoldsE 2 H2.cs w0 ha hn hc hs) (hhk : ∀ x ∈ hs, x.ok) (hm : l.length + 40000000 ≤ 140737488355328) :
    Calls Try.prog 46 #[.pointer (some ⟨p, 0, none⟩), .agg #[.int .i64 lo, .int .i64 pa, .int .i64 no, .slice qa qn qc, .slice na nn nc, .slice ta tn tc, .slice la ln lc, .slice ha hn hc]] w fun e w' => (∃ r, e = .returned r) ∧ ∃ v', Wr w' p v' (l ++ (bytesZ [lo, pa, no] ++ (listW q7Z qs ++ (listW n5Z ns ++ (listW t7Z ts ++ (listW leZ ls ++ listW h2Z hs)))))) (lg || (flW (fun _ => false) qs || (flW (fun _ => false) ns || (flW t7L ts || (flW leL ls || flW (fun _ => false) hs))))) bz ∧ WK p v w w' v' := by
  have HW := hid h
  have HB := hid hb
  have HP := hid hp
  have PL := hid h.lt
  have hPP := h.lt
  have HRO := h.row
  go_enter Try.func46, Try.ntmps46
  go_upto_region 1 with fail
  have K0 : Hid (WK p v w (w.alloc (.cells #[.int .i64 lo, .int .i64 pa, .int .i64 no, .slice qa qn qc, .slice na nn nc, .slice ta tn tc, .slice la ln lc, .slice ha hn hc] 54)) v) := WK.of_below ((Below.refl _ w).alloc (Nat.le_refl _) _)
  have H0 := hid (HW.out.below ((Below.refl w.heap.size w).alloc (Nat.le_refl _) (.cells #[.int .i64 lo, .int .i64 pa, .int .i64 no, .slice qa qn qc, .slice na nn nc, .slice ta tn tc, .slice la ln lc, .slice ha hn hc] 54)))
  have BX := hid (Box.alloc w #[.int .i64 lo, .int .i64 pa, .int .i64 no, .slice qa qn qc, .slice na nn nc, .slice ta tn tc, .slice la ln lc, .slice ha hn hc] (54))
  have NB0 : v.ownBlock ≠ some w.heap.size := fun e => by have := HRO _ e; omega
  have hQp : w.heap.size ≠ p := by omega
  have hQl : w.heap.size < (w.alloc (.cells #[.int .i64 lo, .int .i64 pa, .int .i64 no, .slice qa qn qc, .slice na nn nc, .slice ta tn tc, .slice la ln lc, .slice ha hn hc] 54)).heap.size := by simp
  have D0 := hid (HB.out.alloc HB.out.size (.cells #[.int .i64 lo, .int .i64 pa, .int .i64 no, .slice qa qn qc, .slice na nn nc, .slice ta tn tc, .slice la ln lc, .slice ha hn hc] 54))
  have P0 : Hid (p < (w.alloc (.cells #[.int .i64 lo, .int .i64 pa, .int .i64 no, .slice qa qn qc, .slice na nn nc, .slice ta tn tc, .slice la ln lc, .slice ha hn hc] 54)).heap.size) := Nat.lt_trans PL.out hQl
  clear HW HRO h hb hp hPP HB PL
  generalize (w.alloc (.cells #[.int .i64 lo, .int .i64 pa, .int .i64 no, .slice qa qn qc, .slice na nn nc, .slice ta tn tc, .slice la ln lc, .slice ha hn hc] 54)) = W0 at *
  generalize w.heap.size = QK at *
  have C1 := hid (ints64_lit p [lo, pa, no] W0 v l _ _ H0.out #[.int .i64 lo, .int .i64 pa, .int .i64 no] rfl 3 rfl (by decide) (by intro x hx; simp only [List.mem_cons, List.not_mem_nil, or_false] at hx; rcases hx with rfl | rfl | rfl <;> assumption) (by omega))
  have y0 := BX.out 0 (.int .i64 lo) rfl
  have y1 := BX.out 1 (.int .i64 pa) rfl
  have y2 := BX.out 2 (.int .i64 no) rfl
  go_wp2_with fail
  with_reducible refine C1.out.mono ?_
  clear y0 y1 y2
  rintro e W1 ⟨⟨r1, rfl⟩, v1, h1, k1⟩
  replace BX := hid (BX.out.wk k1 hQp NB0)
  have hQl1 := Nat.lt_of_lt_of_le hQl k1.size
  have NB1 : v1.ownBlock ≠ some QK := fun e => by rcases k1.row _ e with e | e; exact NB0 e; have := hQl; omega
  have D1 := hid (D0.out.trans ((k1.below P0.out (fun g e => (H0.out.row g e).1)).mono HP.out))
  have P1 := hid (Nat.lt_of_lt_of_le P0.out k1.size)
  have H1 := hid h1
  have K1 := hid (K0.out.trans k1)
  clear C1 h1 k1 H0 K0 D0 P0
  have C2 := hid (wlQueue Q7.cs Q7.cs_len Q7.one q7Z (fun _ => false) 63 p qa qn qc qs w0 W1 v1 (l ++ bytesZ [lo, pa, no]) _ _ H1.out D1.out HP.out hqs (fun x hx => queue_el p w0 x (hqk x hx)) (fun x _ => q7Z_len x) (by have := bytesZ_len [lo, pa, no]; simp only [List.length_append, List.length_cons, List.length_nil] at *; omega))
  have y3 := BX.out 3 (.slice qa qn qc) rfl
  go_wp2_with fail
  with_reducible refine C2.out.mono ?_
  clear y3
  rintro e W2 ⟨⟨r2, rfl⟩, v2, h2, k2⟩
  replace BX := hid (BX.out.wk k2 hQp NB1)
  have hQl2 := Nat.lt_of_lt_of_le hQl1 k2.size
  have NB2 : v2.ownBlock ≠ some QK := fun e => by rcases k2.row _ e with e | e; exact NB1 e; have := hQl1; omega
  have D2 := hid (D1.out.trans ((k2.below P1.out (fun g e => (H1.out.row g e).1)).mono HP.out))
  have P2 := hid (Nat.lt_of_lt_of_le P1.out k2.size)
  have H2 := hid h2
  have K2 := hid (K1.out.trans k2)
  clear C2 h2 k2 H1 K1 D1 P1
  have C3 := hid (wlNode N5.cs N5.cs_len N5.one n5Z (fun _ => false) 45 p na nn nc ns w0 W2 v2 ((l ++ bytesZ [lo, pa, no]) ++ listW q7Z qs) _ _ H2.out D2.out HP.out hns (fun x hx => node_el p w0 x (hnk x hx)) (fun x _ => n5Z_len x) (by have := bytesZ_len [lo, pa, no]; have := listW_len (xs := qs) q7Z_len; simp only [List.length_append, List.length_cons, List.length_nil] at *; omega))
  have y4 := BX.out 4 (.slice na nn nc) rfl
  go_wp2_with fail
  with_reducible refine C3.out.mono ?_
  clear y4
  rintro e W3 ⟨⟨r3, rfl⟩, v3, h3, k3⟩
  replace BX := hid (BX.out.wk k3 hQp NB2)
  have hQl3 := Nat.lt_of_lt_of_le hQl2 k3.size
  have NB3 : v3.ownBlock ≠ some QK := fun e => by rcases k3.row _ e with e | e; exact NB2 e; have := hQl2; omega
  have D3 := hid (D2.out.trans ((k3.below P2.out (fun g e => (H2.out.row g e).1)).mono HP.out))
  have P3 := hid (Nat.lt_of_lt_of_le P2.out k3.size)
  have H3 := hid h3
  have K3 := hid (K2.out.trans k3)
  clear C3 h3 k3 H2 K2 D2 P2
  have C4 := hid (wlTask T7.cs T7.cs_len T7.one t7Z t7L 9500 p ta tn tc ts w0 W3 v3 (((l ++ bytesZ [lo, pa, no]) ++ listW q7Z qs) ++ listW n5Z ns) _ _ H3.out D3.out HP.out hts (fun x hx => task_el p w0 HP.out x (hta x hx).1 (hta x hx).2) (fun x _ => t7Z_len x) (by have := bytesZ_len [lo, pa, no]; have := listW_len (xs := qs) q7Z_len; have := listW_len (xs := ns) n5Z_len; simp only [List.length_append, List.length_cons, List.length_nil] at *; omega))
  have y5 := BX.out 5 (.slice ta tn tc) rfl
  go_wp2_with fail
  with_reducible refine C4.out.mono ?_
  clear y5
  rintro e W4 ⟨⟨r4, rfl⟩, v4, h4, k4⟩
  replace BX := hid (BX.out.wk k4 hQp NB3)
  have hQl4 := Nat.lt_of_lt_of_le hQl3 k4.size
  have NB4 : v4.ownBlock ≠ some QK := fun e => by rcases k4.row _ e with e | e; exact NB3 e; have := hQl3; omega
  have D4 := hid (D3.out.trans ((k4.below P3.out (fun g e => (H3.out.row g e).1)).mono HP.out))
  have P4 := hid (Nat.lt_of_lt_of_le P3.out k4.size)
  have H4 := hid h4
  have K4 := hid (K3.out.trans k4)
  clear C4 h4 k4 H3 K3 D3 P3
  have C5 := hid (wlLease Le.cs Le.cs_len Le.one leZ leL 9500 p la ln lc ls w0 W4 v4 ((((l ++ bytesZ [lo, pa, no]) ++ listW q7Z qs) ++ listW n5Z ns) ++ listW t7Z ts) _ _ H4.out D4.out HP.out hls (fun x hx => lease_el p w0 HP.out x (hla x hx).1 (hla x hx).2) (fun x _ => leZ_len x) (by have := bytesZ_len [lo, pa, no]; have := listW_len (xs := qs) q7Z_len; have := listW_len (xs := ns) n5Z_len; have := listW_len (xs := ts) t7Z_len; simp only [List.length_append, List.length_cons, List.length_nil] at *; omega))
  have y6 := BX.out 6 (.slice la ln lc) rfl
  go_wp2_with fail
  with_reducible refine C5.out.mono ?_
  clear y6
  rintro e W5 ⟨⟨r5, rfl⟩, v5, h5, k5⟩
  replace BX := hid (BX.out.wk k5 hQp NB4)
  have hQl5 := Nat.lt_of_lt_of_le hQl4 k5.size
  have NB5 : v5.ownBlock ≠ some QK := fun e => by rcases k5.row _ e with e | e; exact NB4 e; have := hQl4; omega
  have D5 := hid (D4.out.trans ((k5.below P4.out (fun g e => (H4.out.row g e).1)).mono HP.out))
  have P5 := hid (Nat.lt_of_lt_of_le P4.out k5.size)
  have H5 := hid h5
  have K5 := hid (K4.out.trans k5)
  clear C5 h5 k5 H4 K4 D4 P4
  have C6 := hid (wlHunger H2.cs H2.cs_len H2.one h2Z (fun _ => false) 18 p ha hn hc hs w0 W5 v5 (((((l ++ bytesZ [lo, pa, no]) ++ listW q7Z qs) ++ listW n5Z ns) ++ listW t7Z ts) ++ listW leZ ls) _ _ H5.out D5.out HP.out hhs (fun x hx => hunger_el p w0 x (hhk x hx)) (fun x _ => h2Z_len x) (by have := bytesZ_len [lo, pa, no]; have := listW_len (xs := qs) q7Z_len; have := listW_len (xs := ns) n5Z_len; have := listW_len (xs := ts) t7Z_len; have := listW_len (xs := ls) leZ_len; simp only [List.length_append, List.length_cons, List.length_nil] at *; omega))
  have y7 := BX.out 7 (.slice ha hn hc) rfl
  go_wp2_with fail
  with_reducible refine C6.out.mono ?_
  clear y7
  rintro e W6 ⟨⟨r6, rfl⟩, v6, h6, k6⟩
  replace BX := hid (BX.out.wk k6 hQp NB5)
  have hQl6 := Nat.lt_of_lt_of_le hQl5 k6.size
  have NB6 : v6.ownBlock ≠ some QK := fun e => by rcases k6.row _ e with e | e; exact NB5 e; have := hQl5; omega
  have D6 := hid (D5.out.trans ((k6.below P5.out (fun g e => (H5.out.row g e).1)).mono HP.out))
  have P6 := hid (Nat.lt_of_lt_of_le P5.out k6.size)
  have H6 := hid h6
  have K6 := hid (K5.out.trans k6)
  clear C6 h6 k6 H5 K5 D5 P5
  go_wp2_with fail
  first | go_end0 | (refine bodyPost_ret (results_none rfl _ _ _) rfl ?_)
  have HF := H6.out
  simp only [List.append_assoc, Bool.or_assoc, Bool.or_false] at HF
  exact ⟨⟨_, rfl⟩, _, HF, K6.out⟩
end Go.Proofs.Ythkbddnkcljjpaa

namespace Go.Proofs.Ythkbddnkcljjpaa
open Go.RowKit Go.Deep Go.Maps
set_option linter.unusedVariables false
set_option linter.unusedSimpArgs false

set_option maxRecDepth 100000 in
set_option maxHeartbeats 8000000 in
theorem rlease_any (la lb lc : Int) (ta : Option Addr) (tn tc : Nat) (tk : List Int) (ld le lf : Int) (lh : Bool) (w : World) (ila : I64 la) (ilb : I64 lb) (ilc : I64 lc) (ild : I64 ld) (ile : I64 le) (ilf : I64 lf) (ht : HoldsN w ta tn tc tk) (hx : ∀ x ∈ tk, I64 x) (htn : tn ≤ 1024) :
    Calls Try.prog 75 #[.agg #[.int .i64 la, .int .i64 lb, .int .i64 lc, .slice ta tn tc, .int .i64 ld, .int .i64 le, .int .i64 lf, .bool lh]] w fun e w' => ∃ v, e = .returned v ∧ Own w.heap.size w' v (leaseZ la lb lc tk ld le lf lh).length (leaseZ la lb lc tk ld le lf lh) ∧ Below w.heap.size w w' := by
  have HT := hid ht
  have HX0 := hid hx
  have HZ : Hid (leaseZ la lb lc tk ld le lf lh = ((bytesZ [la, lb, lc] ++ numsZ tk) ++ bytesZ [ld, le, lf]) ++ [if lh then 1 else 0]) := by
    unfold Hid leaseZ
    rw [listZ_nums (by have := ht.1; omega)]
    cases lh <;> simp [flagZ, numB, shelf]
  have htl : tk.length ≤ 1024 := by have := ht.1; omega
  clear ht hx
  go_enter Try.func75, Try.ntmps75
  go_upto_region 1 with fail
  have B0 := hid ((Below.refl w.heap.size w).alloc (Nat.le_refl _) (.cells #[.int .i64 la, .int .i64 lb, .int .i64 lc, .slice ta tn tc, .int .i64 ld, .int .i64 le, .int .i64 lf, .bool lh] 138))
  have BX := hid (Box.alloc w #[.int .i64 la, .int .i64 lb, .int .i64 lc, .slice ta tn tc, .int .i64 ld, .int .i64 le, .int .i64 lf, .bool lh] (138))
  have s0 : Hid (w.heap.size + 1 ≤ (w.alloc (.cells #[.int .i64 la, .int .i64 lb, .int .i64 lc, .slice ta tn tc, .int .i64 ld, .int .i64 le, .int .i64 lf, .bool lh] 138)).heap.size) := by unfold Hid; simp
  generalize (w.alloc (.cells #[.int .i64 la, .int .i64 lb, .int .i64 lc, .slice ta tn tc, .int .i64 ld, .int .i64 le, .int .i64 lf, .bool lh] 138)) = W0 at *
  have n1 : Hid ((bytesZ [la, lb, lc]).length ≤ 27) := bytesZ_len [la, lb, lc]
  have C1 := hid (put_lit (w.heap.size + 1) (.slice none 0 0) [] [la, lb, lc] W0 (nilO _ _) s0.out #[.int .i64 la, .int .i64 lb, .int .i64 lc] rfl 3 rfl (by decide) (by intro x hx; simp only [List.mem_cons, List.not_mem_nil, or_false] at hx; rcases hx with rfl | rfl | rfl <;> assumption) (by (try simp only [List.length_append, List.length_nil]); omega))
  generalize hs1 : bytesZ [la, lb, lc] = S1 at *
  have E1 := hid hs1
  clear hs1
  have y0 := BX.out 0 (.int .i64 la) rfl
  have y1 := BX.out 1 (.int .i64 lb) rfl
  have y2 := BX.out 2 (.int .i64 lc) rfl
  go_wp2_with fail
  with_reducible refine C1.out.mono ?_
  clear y0 y1 y2
  rintro e W1 ⟨v1, rfl, h, kk⟩
  rw [List.nil_append] at h
  have H1 := hid h
  replace BX := hid (BX.out.pk kk (by intro e; cases e))
  have B1 := hid (B0.out.trans (kk.below (base := w.heap.size) (by have := s0.out; omega) (by intro g e; cases e)))
  have s1 : Hid (w.heap.size + 1 ≤ W1.heap.size) := by unfold Hid; have := kk.size; have := s0.out; omega
  clear C1 h kk B0 s0
  have n2 : Hid ((numsZ tk).length ≤ 9300) := by have := numsZ_len tk; unfold Hid; omega
  have C2 := hid (rnumbers_any ta tn tc tk W1 (HT.out.below B1.out) HX0.out (by omega))
  generalize hs2 : numsZ tk = S2 at *
  have E2 := hid hs2
  clear hs2
  have y3 := BX.out 3 (.slice ta tn tc) rfl
  go_wp2_with fail
  with_reducible refine C2.out.mono ?_
  clear y3
  rintro e WX ⟨vx, rfl, hx', kx⟩
  have HX := hid (H1.out.below' kx)
  replace BX := hid (BX.out.below kx)
  have BW := hid (B1.out.trans (kx.mono B1.out.size))
  have sx : Hid (w.heap.size + 1 ≤ WX.heap.size) := by unfold Hid; have := kx.size; have := s1.out; omega
  obtain ⟨ga, gc, rfl⟩ := hx'.form
  have HB8 := hid hx'.holds
  clear C2 hx' kx H1 B1 s1
  generalize hz2 : S2.length = z2 at *
  have Z2 := hid hz2
  clear hz2
  obtain ⟨LL, EL⟩ : ∃ LL, Hid (S1 = LL) := ⟨_, rfl⟩
  rw [EL.out] at HX
  have nl : Hid (LL.length ≤ 20000000) := by unfold Hid; rw [← EL.out]; have := n1.out; (try simp only [List.length_append]); omega
  go_wp2_with (at_builtin; refine cat_grow WX rfl (.tmp 12) (.tmp 15) rfl (w.heap.size + 1) LL.length v1 LL rfl HX.out sx.out ga z2 gc S2 rfl HB8.out (by have := nl.out; have := n2.out; omega) ?_)
  intro v2 W2 h kk
  have H2 : Hid (Own (w.heap.size + 1) W2 v2 (LL ++ S2).length (LL ++ S2)) := by unfold Hid; rw [List.length_append, Z2.out]; exact h
  rw [← EL.out] at H2
  replace BX := hid (BX.out.pk kk (fun e => by have := HX.out.1.lt _ e; omega))
  have B2 := hid (BW.out.trans (kk.below (base := w.heap.size) (by have := sx.out; omega) (fun g e => by have := HX.out.1.lt g e; omega)))
  have s2 : Hid (w.heap.size + 1 ≤ W2.heap.size) := by unfold Hid; have := kk.size; have := sx.out; omega
  clear h kk HX BW sx HB8 nl EL
  replace n2 : Hid (S2.length ≤ 9300) := by unfold Hid; rw [Z2.out]; exact n2.out
  have n3 : Hid ((bytesZ [ld, le, lf]).length ≤ 27) := bytesZ_len [ld, le, lf]
  have C3 := hid (put_lit (w.heap.size + 1) v2 (S1 ++ S2) [ld, le, lf] W2 H2.out s2.out #[.int .i64 ld, .int .i64 le, .int .i64 lf] rfl 3 rfl (by decide) (by intro x hx; simp only [List.mem_cons, List.not_mem_nil, or_false] at hx; rcases hx with rfl | rfl | rfl <;> assumption) (by have := n1.out; have := n2.out; (try simp only [List.length_append, List.length_nil]); omega))
  generalize hs3 : bytesZ [ld, le, lf] = S3 at *
  have E3 := hid hs3
  clear hs3
  have y4 := BX.out 4 (.int .i64 ld) rfl
  have y5 := BX.out 5 (.int .i64 le) rfl
  have y6 := BX.out 6 (.int .i64 lf) rfl
  go_wp2_with fail
  with_reducible refine C3.out.mono ?_
  clear y4 y5 y6
  rintro e W3 ⟨v3, rfl, h, kk⟩
  have H3 := hid h
  replace BX := hid (BX.out.pk kk (fun e => by have := H2.out.1.lt _ e; omega))
  have B3 := hid (B2.out.trans (kk.below (base := w.heap.size) (by have := s2.out; omega) (fun g e => by have := H2.out.1.lt g e; omega)))
  have s3 : Hid (w.heap.size + 1 ≤ W3.heap.size) := by unfold Hid; have := kk.size; have := s2.out; omega
  clear C3 h kk B2 s2 H2
  have y7 := BX.out 7 (.bool lh) rfl
  have nl : Hid ((S1 ++ S2 ++ S3).length + 1 ≤ 140737488355328) := by unfold Hid; have := n1.out; have := n2.out; have := n3.out; simp only [List.length_append]; omega
  generalize hL : S1 ++ S2 ++ S3 = LL at *
  have EL := hid hL
  clear hL
  cases lh
  · go_wp2_with (at_builtin; refine push_own W3 0 rfl (.tmp 31) (.tmp 32) rfl (w.heap.size + 1) LL.length v3 LL rfl H3.out s3.out rfl (by omega) (by omega) nl.out ?_)
    intro v4 W4 h4 k4
    have H4 := hid h4
    have B4 := hid (B3.out.trans (k4.mono (by omega)) |> fun z => z)
    clear h4 k4 y7
    go_wp2_with fail
    go_ret
    refine ⟨_, rfl, ?_, B4.out⟩
    rw [HZ.out, List.length_append]
    exact H4.out.base (by omega)
  · go_wp2_with (at_builtin; refine push_own W3 1 rfl (.tmp 28) (.tmp 29) rfl (w.heap.size + 1) LL.length v3 LL rfl H3.out s3.out rfl (by omega) (by omega) nl.out ?_)
    intro v4 W4 h4 k4
    have H4 := hid h4
    have B4 := hid (B3.out.trans (k4.mono (by omega)) |> fun z => z)
    clear h4 k4 y7
    go_wp2_with fail
    go_ret
    refine ⟨_, rfl, ?_, B4.out⟩
    rw [HZ.out, List.length_append]
    exact H4.out.base (by omega)
end Go.Proofs.Ythkbddnkcljjpaa

namespace Go.Proofs.Ythkbddnkcljjpaa
open Go.RowKit Go.Deep Go.Maps
set_option linter.unusedVariables false
set_option linter.unusedSimpArgs false

theorem Blk.boxE {W : World} {Q t : Nat} {cs : Array Value} (h : Blk W Q t cs) : Box W Q cs := fun i x e => by
  have h' : W.heap[Q]? = some (.cells cs t (0, 0)) := h
  simp [World.cell?, h', e]
set_option maxRecDepth 100000 in
set_option maxHeartbeats 8000000 in
theorem rleases_any (la : Option Addr) (ln lc : Nat) (ls : List Le) (w : World) (hls : HoldsE 8 Le.cs w la ln lc ls) (hla : LeAll w ls) (hsh : ∀ x ∈ ls, x.sl ≤ 1024) (hn : ln ≤ 1024) :
    Calls Try.prog 43 #[.slice la ln lc] w fun e w' => ∃ v, e = .returned v ∧ Own w.heap.size w' v (listE leZ ls).length (listE leZ ls) ∧ Below w.heap.size w w' := by
  have HN := hid hls.1
  have HLA := hid hla
  have HSH := hid hsh
  have RA := hid (fun hp => hls.rangeAt hp)
  have tcap := hls.2.1
  have tcm := hls.2.2.1
  have E : Hid (listE leZ ls = numB (ln : Int) ++ ls.flatMap leZ) := by unfold Hid listE; rw [HN.out]
  have CO := hid (rcount_any ln w (by omega))
  clear hls hla hsh
  go_enter Try.func43, Try.ntmps43
  go_wp2_with fail
  with_reducible refine CO.out.mono ?_
  rintro e w1 ⟨v1, rfl, h1, k1⟩
  have hl9 : (numB (ln : Int)).length ≤ 9 := by rw [numB_len]; have := shelf_le (ln : Int); omega
  have H1 : Hid (Own w.heap.size w1 v1 (numB (ln : Int)).length (numB (ln : Int))) := by unfold Hid; rw [numB_len]; exact h1
  have B1 := hid k1
  clear CO h1 k1
  generalize numB (ln : Int) = NB at *
  go_wp2_with fail
  go_loopw [3, 11] (fun v i wr => ∃ k : Nat, k ≤ ln ∧ i = .int .i64 (k : Int) ∧ Hid (Own w.heap.size wr v (NB ++ (ls.take k).flatMap leZ).length (NB ++ (ls.take k).flatMap leZ)) ∧ Hid (Below w.heap.size w wr)) (fun _ i _ => ln - (intOf i).toNat)
  case atStart => exact ⟨0, by omega, rfl, by unfold Hid; simpa using H1.out, B1⟩
  case round =>
    obtain ⟨k, hk', rfl, HO, BR⟩ := hrel
    by_cases hlt : k < ln
    · have hlt' : k < ls.length := by rw [HN.out]; exact hlt
      obtain ⟨b, off, rfl, hbl, RI⟩ := RA.out (by omega)
      have RG := rangeAt_below (RI k ls[k] (List.getElem?_eq_getElem hlt')) BR.out
      have SN := hid (flat_snoc (en := leZ) hlt')
      have hfl := flat_le (en := leZ) (xs := ls.take k) (M := 9500) (fun x hx => leZ_len x)
      have hmem := List.getElem_mem hlt'
      have ka : (0 : Int) ≤ (k : Int) := by omega
      have kb : (k : Int) < (ln : Int) := by omega
      rw [List.length_take] at hfl
      have hfl2 : ((ls.take k).flatMap leZ).length ≤ 1024 * 9500 := Nat.le_trans hfl (Nat.mul_le_mul_right 9500 (by omega))
      have LL := leZ_len ls[k]
      have EX := hid (fun W (hW : Below w.heap.size w W) => rlease_any ls[k].ta ls[k].qu ls[k].no ls[k].sa ls[k].sl ls[k].sc ls[k].co ls[k].me ls[k].si ls[k].un ls[k].st W (HLA.out _ hmem).2.1.1 (HLA.out _ hmem).2.1.2.1 (HLA.out _ hmem).2.1.2.2.1 (HLA.out _ hmem).2.1.2.2.2.1 (HLA.out _ hmem).2.1.2.2.2.2.1 (HLA.out _ hmem).2.1.2.2.2.2.2 ((HLA.out _ hmem).1.below hW) (HLA.out _ hmem).2.2 (HSH.out _ hmem))
      have EX2 : Hid (∀ W, Below w.heap.size w W → Calls Try.prog 75 #[.agg ls[k].cs.toArray] W fun e w' => ∃ v, e = .returned v ∧ Own W.heap.size w' v (leZ ls[k]).length (leZ ls[k]) ∧ Below W.heap.size W w') := EX.out
      have HO1 := hid (all_oneCell_toArray (Le.one ls[k]))
      have HK : Hid (ls[k].cs.length = 8) := rfl
      clear RI hmem EX hfl
      generalize leZ ls[k] = NZ at *
      generalize ls[k].cs = X at *
      have hsz : (Try.prog.info? 138).map (·.size) = some X.length := by rw [HK.out]; exact sizeLease
      obtain ⟨L0, EL⟩ : ∃ L0, Hid (NB ++ (ls.take k).flatMap leZ = L0) := ⟨_, rfl⟩
      have hL0 : L0.length ≤ 20000000 := by rw [← EL.out, List.length_append]; omega
      rw [EL.out] at HO
      go_upto_region 5 with (first | refine wpList_load_mid rfl 138 (.tmp 13) rfl _ _ rfl X _ RG Try.underlying138 rfl hsz ?_ | refine wpList_store_row rfl 138 (.tmp 5) (.tmp 14) rfl wr.heap.size X.toArray rfl rfl 138 _ (heap_alloc_new wr _) (by simpa using hsz) (by show 8 = X.toArray.size; rw [List.size_toArray, HK.out]) HO1.out ?_)
      rw [alloc_row]
      have b2 := (Below.refl wr.heap.size wr).alloc (Nat.le_refl _) (.cells X.toArray 138)
      have BX := hid (Blk.alloc wr X.toArray (138))
      have HO2 := hid (HO.out.below' b2)
      have BR2 := hid (BR.out.alloc BR.out.size (.cells X.toArray 138))
      clear RG b2 BR HO
      generalize wr.alloc (.cells X.toArray 138) = w2 at *
      have CI := hid (EX2.out w2 BR2.out)
      have LD := BX.out.loadAt Try.underlying138 rfl (by simpa using hsz)
      go_wp2_with (refine wpList_load_at 138 rfl (.tmp 5) rfl _ _ rfl _ LD ?_)
      with_reducible refine CI.out.mono ?_
      rintro e w3 ⟨vx, rfl, hx', kx⟩
      have HO3 := hid (HO2.out.below' kx)
      have B3 := hid (BR2.out.trans (kx.mono BR2.out.size))
      obtain ⟨ga, gc, rfl⟩ := hx'.form
      have HB8 := hid hx'.holds
      clear CI hx' kx HO2 BR2 LD BX EX2
      generalize hz : NZ.length = nz at *
      have HZ := hid hz
      clear hz
      have s3 : Hid (w.heap.size ≤ w3.heap.size) := B3.out.size
      go_wp2_with (at_builtin; refine cat_own w3 rfl (.tmp 15) (.tmp 17) rfl w.heap.size L0.length _ L0 rfl HO3.out s3.out ga nz gc NZ rfl HB8.out (by omega) ?_)
      intro v4 w4 h4 k4
      have HO4 : Hid (Own w.heap.size w4 v4 (NB ++ (ls.take (k + 1)).flatMap leZ).length (NB ++ (ls.take (k + 1)).flatMap leZ)) := by
        unfold Hid
        rw [SN.out, ← List.append_assoc, EL.out, List.length_append, HZ.out]
        exact h4
      have B4 := hid (B3.out.trans k4)
      clear h4 k4 HO3 B3 HB8
      go_wp2_with fail
      refine ⟨⟨k + 1, by omega, by go_num, HO4, B4⟩, ?_⟩
      simp [intOf]; omega
    · obtain rfl : ln = k := by omega
      have e : ls.take ln = ls := List.take_of_length_le (by rw [HN.out]; exact Nat.le_refl _)
      rw [e] at HO
      go_wp2_with fail
      go_ret
      refine ⟨_, rfl, ?_, BR.out⟩
      rw [E.out]
      exact HO.out

set_option maxRecDepth 100000 in
set_option maxHeartbeats 8000000 in
theorem rshort_any (la : Option Addr) (ln lc : Nat) (ls : List Le) (w : World) (hls : HoldsE 8 Le.cs w la ln lc ls) :
    Calls Try.prog 41 #[.slice la ln lc] w fun e w' => e = .returned (.bool (!(flW leL ls))) ∧ Below w.heap.size w w' := by
  have HN := hid hls.1
  have RA := hid (fun hp => hls.rangeAt hp)
  have tcap := hls.2.1
  have tcm := hls.2.2.1
  clear hls
  go_enter Try.func41, Try.ntmps41
  go_wp2_with fail
  go_loopw [7] (fun i wr => ∃ k : Nat, k ≤ ln ∧ i = .int .i64 (k : Int) ∧ Hid ((ls.take k).any leL = false) ∧ Hid (Below w.heap.size w wr)) (fun i _ => ln - (intOf i).toNat)
  case atStart => exact ⟨0, by omega, rfl, rfl, Below.refl _ _⟩
  case round =>
    obtain ⟨k, hk', rfl, HA, BR⟩ := hrel
    by_cases hlt : k < ln
    · have hlt' : k < ls.length := by rw [HN.out]; exact hlt
      obtain ⟨b, off, rfl, hbl, RI⟩ := RA.out (by omega)
      have RG := rangeAt_below (RI k ls[k] (List.getElem?_eq_getElem hlt')) BR.out
      have AN := hid (any_snoc leL hlt')
      have ka : (0 : Int) ≤ (k : Int) := by omega
      have kb : (k : Int) < (ln : Int) := by omega
      have HO1 := hid (all_oneCell_toArray (Le.one ls[k]))
      have HK : Hid (ls[k].cs.length = 8) := rfl
      have H3 : Hid (ls[k].cs.toArray[3]? = some (.slice ls[k].sa ls[k].sl ls[k].sc)) := rfl
      have TR : Hid (leL ls[k] = true → flW leL ls = true) := fun h => by
        unfold flW
        split
        · rfl
        · exact List.any_eq_true.2 ⟨_, List.getElem_mem hlt', h⟩
      have LD3 : Hid (leL ls[k] = decide (1024 < ls[k].sl)) := rfl
      clear RI
      generalize leL ls[k] = LB at *
      generalize ls[k].cs = X at *
      generalize ls[k].sa = sa at *
      generalize ls[k].sl = sl at *
      generalize ls[k].sc = sc at *
      have hsz : (Try.prog.info? 138).map (·.size) = some X.length := by rw [HK.out]; exact sizeLease
      go_upto_region 4 with (first | refine wpList_load_mid rfl 138 (.tmp 9) rfl _ _ rfl X _ RG Try.underlying138 rfl hsz ?_ | refine wpList_store_row rfl 138 (.tmp 4) (.tmp 10) rfl wr.heap.size X.toArray rfl rfl 138 _ (heap_alloc_new wr _) (by simpa using hsz) (by show 8 = X.toArray.size; rw [List.size_toArray, HK.out]) HO1.out ?_)
      rw [alloc_row]
      have c3 := (Blk.alloc wr X.toArray (138)).boxE 3 _ H3.out
      have BR2 := hid (BR.out.alloc BR.out.size (.cells X.toArray 138))
      clear RG BR
      generalize wr.alloc (.cells X.toArray 138) = w2 at *
      by_cases hs : 1024 < sl
      · have t1 : decide ((1024 : Int) < (sl : Int)) = true := by simp; omega
        have EF := TR.out (by rw [LD3.out]; simpa using hs)
        have HEF := hid EF
        clear EF hs
        go_wp2_with fail
        go_ret
        exact ⟨by rw [HEF.out]; rfl, BR2.out⟩
      · have t1 : decide ((1024 : Int) < (sl : Int)) = false := by simp; omega
        have HA2 : Hid ((ls.take (k + 1)).any leL = false) := by unfold Hid; rw [AN.out, HA.out, LD3.out]; simpa using hs
        clear hs
        go_wp2_with fail
        refine ⟨⟨k + 1, by omega, by go_num, HA2, BR2⟩, ?_⟩
        simp [intOf]; omega
    · obtain rfl : ln = k := by omega
      have e : ls.take ln = ls := List.take_of_length_le (by rw [HN.out]; exact Nat.le_refl _)
      rw [e] at HA
      have FW : Hid (flW leL ls = decide (1024 < ln)) := by
        unfold Hid flW
        rw [HN.out, HA.out]
        by_cases h : 1024 < ln
        · rw [if_pos h]; simp [h]
        · rw [if_neg h]; simp [h]
      by_cases h : 1024 < ln
      · have t1 : decide ((ln : Int) ≤ 1024) = false := by simp; omega
        have FW2 : Hid (flW leL ls = true) := by unfold Hid; rw [FW.out]; simpa using h
        clear h
        go_wp2_with fail
        go_ret
        exact ⟨by rw [FW2.out]; rfl, BR.out⟩
      · have t1 : decide ((ln : Int) ≤ 1024) = true := by simp; omega
        have FW2 : Hid (flW leL ls = false) := by unfold Hid; rw [FW.out]; simpa using h
        clear h
        go_wp2_with fail
        go_ret
        exact ⟨by rw [FW2.out]; rfl, BR.out⟩
end Go.Proofs.Ythkbddnkcljjpaa

namespace Go.Proofs.Ythkbddnkcljjpaa
open Go.RowKit Go.Deep Go.Maps
set_option linter.unusedVariables false
set_option linter.unusedSimpArgs false

/-- The error of what is too long. -/
def lngE (b : Bool) : Int := if b then 3 else 0
set_option maxRecDepth 100000 in
theorem sizeAns : (Try.prog.info? 46).map (·.size) = some 5 := by kernel_rfl
set_option maxRecDepth 100000 in
set_option maxHeartbeats 8000000 in
theorem encA_any (er at' an : Int) (ca : Option Addr) (cn cc : Nat) (co : List Int) (la : Option Addr) (ln lc : Nat) (ls : List Le) (w : World) (ier : I64 er) (iat : I64 at') (ian : I64 an) (hco : HoldsN w ca cn cc co) (hcx : ∀ x ∈ co, I64 x) (hls : HoldsE 8 Le.cs w la ln lc ls) (hla : LeAll w ls) :
    Calls Try.prog 39 #[.agg #[.int .i64 er, .int .i64 at', .int .i64 an, .slice ca cn cc, .slice la ln lc], .func (.func 40) #[] #[]] w fun e w' => ∃ v, e = .returned (.tuple #[v, .int .i64 (lngE (decide (1024 < cn) || flW leL ls))]) ∧ ((decide (1024 < cn) || flW leL ls) = false → Own w.heap.size w' v (bytesZ [er] ++ (bytesZ [at', an] ++ (listZ co ++ listW leZ ls))).length (bytesZ [er] ++ (bytesZ [at', an] ++ (listZ co ++ listW leZ ls)))) ∧ ((decide (1024 < cn) || flW leL ls) = true → v = .slice none 0 0) ∧ Below w.heap.size w w' := by
  go_enter Try.func39, Try.ntmps39
  go_upto_region 2 with fail
  have B0 := (Below.refl w.heap.size w).alloc (Nat.le_refl _) (.cells #[.int .i64 er, .int .i64 at', .int .i64 an, .slice ca cn cc, .slice la ln lc] 46)
  have B1 := B0.alloc (by simp) (.cells #[.slice none 0 0, .bool false, .bool false] 128)
  have X1 := hid ((Blk.alloc w #[.int .i64 er, .int .i64 at', .int .i64 an, .slice ca cn cc, .slice la ln lc] (46)).below ((Below.refl _ _).alloc (Nat.le_refl _) (.cells #[.slice none 0 0, .bool false, .bool false] 128)))
  have H0 : Hid (Wr ((w.alloc (.cells #[.int .i64 er, .int .i64 at', .int .i64 an, .slice ca cn cc, .slice la ln lc] 46)).alloc (.cells #[.slice none 0 0, .bool false, .bool false] 128)) (w.heap.size + 1) (.slice none 0 0) [] false false) := ⟨⟨⟨by simp [go_sem], by simp [go_sem], by simp [go_sem]⟩, by simp [go_sem], by simp [go_sem], by simp [go_sem]⟩, own_nil _ _⟩
  have z0 : ((w.alloc (.cells #[.int .i64 er, .int .i64 at', .int .i64 an, .slice ca cn cc, .slice la ln lc] 46)).alloc (.cells #[.slice none 0 0, .bool false, .bool false] 128)).heap.size = w.heap.size + 1 + 1 := by simp
  clear B0
  generalize ((w.alloc (.cells #[.int .i64 er, .int .i64 at', .int .i64 an, .slice ca cn cc, .slice la ln lc] 46)).alloc (.cells #[.slice none 0 0, .bool false, .bool false] 128)) = W0 at *
  have C1 := hid (canswer_any (w.heap.size + 1) er at' an ca cn cc co la ln lc ls w W0 (.slice none 0 0) [] false false H0.out B1 (by omega) ier iat ian hco hcx hls hla (by simp))
  rw [List.nil_append, Bool.false_or] at C1
  generalize hbs : (bytesZ [er] ++ (bytesZ [at', an] ++ (listZ co ++ listW leZ ls))) = BS at *
  generalize hfl : (decide (1024 < cn) || flW leL ls) = FL at *
  have HBS := hid hbs
  have HFL := hid hfl
  clear hbs hfl
  have LD := X1.out.loadAt Try.underlying46 rfl sizeAns
  go_wp2_with (refine wpList_load_at 46 rfl (.tmp 2) rfl _ _ rfl _ LD ?_)
  with_reducible refine C1.out.mono ?_
  rintro e W1 ⟨⟨r1, rfl⟩, v1, h1, k1⟩
  clear C1 LD
  have hB := B1.trans ((k1.below (by omega) (by intro g e; cases e)).mono (by omega : w.heap.size ≤ w.heap.size + 1))
  have H1 := hid h1.2
  obtain ⟨y0, y1, y2⟩ := h1.1.1
  clear h1 k1 H0 X1 B1
  cases FL
  · go_wp2_with fail
    refine bodyPost_ret (v := .tuple #[v1, .int .i64 0]) (by simp [results, Try.results39, go_sem]) rfl ?_
    rw [HBS.out, HFL.out]
    exact ⟨_, rfl, fun _ => H1.out.base (by omega), (fun h => by cases h), hB⟩
  · go_wp2_with fail
    refine bodyPost_ret (v := .tuple #[.slice none 0 0, .int .i64 3]) (by simp [results, Try.results39, go_sem]) rfl ?_
    rw [HBS.out, HFL.out]
    exact ⟨_, rfl, (fun h => by cases h), fun _ => rfl, hB⟩

set_option maxRecDepth 100000 in
set_option maxHeartbeats 8000000 in
theorem encanswer_any (er at' an : Int) (ca : Option Addr) (cn cc : Nat) (co : List Int) (la : Option Addr) (ln lc : Nat) (ls : List Le) (w : World) (ier : I64 er) (iat : I64 at') (ian : I64 an) (hco : HoldsN w ca cn cc co) (hcx : ∀ x ∈ co, I64 x) (hls : HoldsE 8 Le.cs w la ln lc ls) (hla : LeAll w ls) :
    Calls Try.prog 16 #[.agg #[.int .i64 er, .int .i64 at', .int .i64 an, .slice ca cn cc, .slice la ln lc]] w fun e w' => ∃ v, e = .returned (.tuple #[v, .int .i64 (lngE (decide (1024 < cn) || flW leL ls))]) ∧ ((decide (1024 < cn) || flW leL ls) = false → Own w.heap.size w' v (bytesZ [er] ++ (bytesZ [at', an] ++ (listZ co ++ listW leZ ls))).length (bytesZ [er] ++ (bytesZ [at', an] ++ (listZ co ++ listW leZ ls)))) ∧ ((decide (1024 < cn) || flW leL ls) = true → v = .slice none 0 0) ∧ Below w.heap.size w w' := by
  have K0 := hid (fun W (hb : Below w.heap.size w W) (C : Calls Try.prog 39 #[.agg #[.int .i64 er, .int .i64 at', .int .i64 an, .slice ca cn cc, .slice la ln lc], .func (.func 40) #[] #[]] W (fun e w' => ∃ v, e = .returned (.tuple #[v, .int .i64 (lngE (decide (1024 < cn) || flW leL ls))]) ∧ ((decide (1024 < cn) || flW leL ls) = false → Own W.heap.size w' v (bytesZ [er] ++ (bytesZ [at', an] ++ (listZ co ++ listW leZ ls))).length (bytesZ [er] ++ (bytesZ [at', an] ++ (listZ co ++ listW leZ ls)))) ∧ ((decide (1024 < cn) || flW leL ls) = true → v = .slice none 0 0) ∧ Below W.heap.size W w')) => C)
  go_enter Try.func16, Try.ntmps16
  go_upto_region 1 with fail
  have B0 := (Below.refl w.heap.size w).alloc (Nat.le_refl _) (.cells #[.int .i64 er, .int .i64 at', .int .i64 an, .slice ca cn cc, .slice la ln lc] 46)
  have X1 := hid (Blk.alloc w #[.int .i64 er, .int .i64 at', .int .i64 an, .slice ca cn cc, .slice la ln lc] (46))
  have C1 := hid (encA_any er at' an ca cn cc co la ln lc ls (w.alloc (.cells #[.int .i64 er, .int .i64 at', .int .i64 an, .slice ca cn cc, .slice la ln lc] 46)) ier iat ian (hco.below B0) hcx (hls.below B0) (fun x hx => ⟨(hla x hx).1.below B0, (hla x hx).2⟩))
  generalize hbs : (bytesZ [er] ++ (bytesZ [at', an] ++ (listZ co ++ listW leZ ls))) = BS at *
  generalize hfl : (decide (1024 < cn) || flW leL ls) = FL at *
  have HBS := hid hbs
  have HFL := hid hfl
  clear hbs hfl K0
  have zs : w.heap.size ≤ (w.alloc (.cells #[.int .i64 er, .int .i64 at', .int .i64 an, .slice ca cn cc, .slice la ln lc] 46)).heap.size := by simp
  generalize (w.alloc (.cells #[.int .i64 er, .int .i64 at', .int .i64 an, .slice ca cn cc, .slice la ln lc] 46)) = W0 at *
  have LD := X1.out.loadAt Try.underlying46 rfl sizeAns
  generalize hlg : lngE FL = EE at *
  have HLG := hid hlg
  clear hlg
  go_wp2_with (refine wpList_load_at 46 rfl (.tmp 1) rfl _ _ rfl _ LD ?_)
  with_reducible refine C1.out.mono ?_
  rintro e W1 ⟨v1, rfl, h1, h2, k1⟩
  have G1 := hid h1
  have G2 := hid h2
  have hB := hid (B0.trans (k1.mono zs))
  clear C1 LD h1 h2 k1 B0 X1
  go_wp2_with fail
  refine bodyPost_ret (v := .tuple #[v1, .int .i64 EE]) (by simp [results, Try.results16, go_sem]) rfl ?_
  rw [HBS.out, HFL.out, HLG.out]
  exact ⟨_, rfl, fun h => (G1.out h).base zs, G2.out, hB.out⟩
set_option maxRecDepth 100000 in
theorem sizeSta : (Try.prog.info? 54).map (·.size) = some 8 := by kernel_rfl
set_option maxRecDepth 100000 in
set_option maxHeartbeats 8000000 in
theorem encS_any (lo pa no : Int) (qa : Option Addr) (qn qc : Nat) (qs : List Q7) (na : Option Addr) (nn nc : Nat) (ns : List N5) (ta : Option Addr) (tn tc : Nat) (ts : List T7) (la : Option Addr) (ln lc : Nat) (ls : List Le) (ha : Option Addr) (hn hc : Nat) (hs : List H2) (w : World) (ilo : I64 lo) (ipa : I64 pa) (ino : I64 no) (hqs : HoldsE 7 Q7.cs w qa qn qc qs) (hqk : ∀ x ∈ qs, x.ok) (hns : HoldsE 5 N5.cs w na nn nc ns) (hnk : ∀ x ∈ ns, x.ok) (hts : HoldsE 7 T7.cs w ta tn tc ts) (hta : TaAll w ts) (hls : HoldsE 8 Le.cs w la ln lc ls) (hla : LeAll w ls) (hhs : HoldsE 2 H2.cs w ha hn hc hs) (hhk : ∀ x ∈ hs, x.ok) :
    Calls Try.prog 45 #[.agg #[.int .i64 lo, .int .i64 pa, .int .i64 no, .slice qa qn qc, .slice na nn nc, .slice ta tn tc, .slice la ln lc, .slice ha hn hc], .func (.func 46) #[] #[]] w fun e w' => ∃ v, e = .returned (.tuple #[v, .int .i64 (lngE (flW (fun _ => false) qs || (flW (fun _ => false) ns || (flW t7L ts || (flW leL ls || flW (fun _ => false) hs)))))]) ∧ ((flW (fun _ => false) qs || (flW (fun _ => false) ns || (flW t7L ts || (flW leL ls || flW (fun _ => false) hs)))) = false → Own w.heap.size w' v (bytesZ [lo, pa, no] ++ (listW q7Z qs ++ (listW n5Z ns ++ (listW t7Z ts ++ (listW leZ ls ++ listW h2Z hs))))).length (bytesZ [lo, pa, no] ++ (listW q7Z qs ++ (listW n5Z ns ++ (listW t7Z ts ++ (listW leZ ls ++ listW h2Z hs)))))) ∧ ((flW (fun _ => false) qs || (flW (fun _ => false) ns || (flW t7L ts || (flW leL ls || flW (fun _ => false) hs)))) = true → v = .slice none 0 0) ∧ Below w.heap.size w w' := by
  go_enter Try.func45, Try.ntmps45
  go_upto_region 2 with fail
  have B0 := (Below.refl w.heap.size w).alloc (Nat.le_refl _) (.cells #[.int .i64 lo, .int .i64 pa, .int .i64 no, .slice qa qn qc, .slice na nn nc, .slice ta tn tc, .slice la ln lc, .slice ha hn hc] 54)
  have B1 := B0.alloc (by simp) (.cells #[.slice none 0 0, .bool false, .bool false] 128)
  have X1 := hid ((Blk.alloc w #[.int .i64 lo, .int .i64 pa, .int .i64 no, .slice qa qn qc, .slice na nn nc, .slice ta tn tc, .slice la ln lc, .slice ha hn hc] (54)).below ((Below.refl _ _).alloc (Nat.le_refl _) (.cells #[.slice none 0 0, .bool false, .bool false] 128)))
  have H0 : Hid (Wr ((w.alloc (.cells #[.int .i64 lo, .int .i64 pa, .int .i64 no, .slice qa qn qc, .slice na nn nc, .slice ta tn tc, .slice la ln lc, .slice ha hn hc] 54)).alloc (.cells #[.slice none 0 0, .bool false, .bool false] 128)) (w.heap.size + 1) (.slice none 0 0) [] false false) := ⟨⟨⟨by simp [go_sem], by simp [go_sem], by simp [go_sem]⟩, by simp [go_sem], by simp [go_sem], by simp [go_sem]⟩, own_nil _ _⟩
  have z0 : ((w.alloc (.cells #[.int .i64 lo, .int .i64 pa, .int .i64 no, .slice qa qn qc, .slice na nn nc, .slice ta tn tc, .slice la ln lc, .slice ha hn hc] 54)).alloc (.cells #[.slice none 0 0, .bool false, .bool false] 128)).heap.size = w.heap.size + 1 + 1 := by simp
  clear B0
  generalize ((w.alloc (.cells #[.int .i64 lo, .int .i64 pa, .int .i64 no, .slice qa qn qc, .slice na nn nc, .slice ta tn tc, .slice la ln lc, .slice ha hn hc] 54)).alloc (.cells #[.slice none 0 0, .bool false, .bool false] 128)) = W0 at *
  have C1 := hid (cstate_any (w.heap.size + 1) lo pa no qa qn qc qs na nn nc ns ta tn tc ts la ln lc ls ha hn hc hs w W0 (.slice none 0 0) [] false false H0.out B1 (by omega) ilo ipa ino hqs hqk hns hnk hts hta hls hla hhs hhk (by simp))
  rw [List.nil_append, Bool.false_or] at C1
  generalize hbs : (bytesZ [lo, pa, no] ++ (listW q7Z qs ++ (listW n5Z ns ++ (listW t7Z ts ++ (listW leZ ls ++ listW h2Z hs))))) = BS at *
  generalize hfl : (flW (fun _ => false) qs || (flW (fun _ => false) ns || (flW t7L ts || (flW leL ls || flW (fun _ => false) hs)))) = FL at *
  have HBS := hid hbs
  have HFL := hid hfl
  clear hbs hfl
  have LD := X1.out.loadAt Try.underlying54 rfl sizeSta
  go_wp2_with (refine wpList_load_at 54 rfl (.tmp 2) rfl _ _ rfl _ LD ?_)
  with_reducible refine C1.out.mono ?_
  rintro e W1 ⟨⟨r1, rfl⟩, v1, h1, k1⟩
  clear C1 LD
  have hB := B1.trans ((k1.below (by omega) (by intro g e; cases e)).mono (by omega : w.heap.size ≤ w.heap.size + 1))
  have H1 := hid h1.2
  obtain ⟨y0, y1, y2⟩ := h1.1.1
  clear h1 k1 H0 X1 B1
  cases FL
  · go_wp2_with fail
    refine bodyPost_ret (v := .tuple #[v1, .int .i64 0]) (by simp [results, Try.results45, go_sem]) rfl ?_
    rw [HBS.out, HFL.out]
    exact ⟨_, rfl, fun _ => H1.out.base (by omega), (fun h => by cases h), hB⟩
  · go_wp2_with fail
    refine bodyPost_ret (v := .tuple #[.slice none 0 0, .int .i64 3]) (by simp [results, Try.results45, go_sem]) rfl ?_
    rw [HBS.out, HFL.out]
    exact ⟨_, rfl, (fun h => by cases h), fun _ => rfl, hB⟩

set_option maxRecDepth 100000 in
set_option maxHeartbeats 8000000 in
theorem encstate_any (lo pa no : Int) (qa : Option Addr) (qn qc : Nat) (qs : List Q7) (na : Option Addr) (nn nc : Nat) (ns : List N5) (ta : Option Addr) (tn tc : Nat) (ts : List T7) (la : Option Addr) (ln lc : Nat) (ls : List Le) (ha : Option Addr) (hn hc : Nat) (hs : List H2) (w : World) (ilo : I64 lo) (ipa : I64 pa) (ino : I64 no) (hqs : HoldsE 7 Q7.cs w qa qn qc qs) (hqk : ∀ x ∈ qs, x.ok) (hns : HoldsE 5 N5.cs w na nn nc ns) (hnk : ∀ x ∈ ns, x.ok) (hts : HoldsE 7 T7.cs w ta tn tc ts) (hta : TaAll w ts) (hls : HoldsE 8 Le.cs w la ln lc ls) (hla : LeAll w ls) (hhs : HoldsE 2 H2.cs w ha hn hc hs) (hhk : ∀ x ∈ hs, x.ok) :
    Calls Try.prog 19 #[.agg #[.int .i64 lo, .int .i64 pa, .int .i64 no, .slice qa qn qc, .slice na nn nc, .slice ta tn tc, .slice la ln lc, .slice ha hn hc]] w fun e w' => ∃ v, e = .returned (.tuple #[v, .int .i64 (lngE (flW (fun _ => false) qs || (flW (fun _ => false) ns || (flW t7L ts || (flW leL ls || flW (fun _ => false) hs)))))]) ∧ ((flW (fun _ => false) qs || (flW (fun _ => false) ns || (flW t7L ts || (flW leL ls || flW (fun _ => false) hs)))) = false → Own w.heap.size w' v (bytesZ [lo, pa, no] ++ (listW q7Z qs ++ (listW n5Z ns ++ (listW t7Z ts ++ (listW leZ ls ++ listW h2Z hs))))).length (bytesZ [lo, pa, no] ++ (listW q7Z qs ++ (listW n5Z ns ++ (listW t7Z ts ++ (listW leZ ls ++ listW h2Z hs)))))) ∧ ((flW (fun _ => false) qs || (flW (fun _ => false) ns || (flW t7L ts || (flW leL ls || flW (fun _ => false) hs)))) = true → v = .slice none 0 0) ∧ Below w.heap.size w w' := by
  have K0 := hid (fun W (hb : Below w.heap.size w W) (C : Calls Try.prog 45 #[.agg #[.int .i64 lo, .int .i64 pa, .int .i64 no, .slice qa qn qc, .slice na nn nc, .slice ta tn tc, .slice la ln lc, .slice ha hn hc], .func (.func 46) #[] #[]] W (fun e w' => ∃ v, e = .returned (.tuple #[v, .int .i64 (lngE (flW (fun _ => false) qs || (flW (fun _ => false) ns || (flW t7L ts || (flW leL ls || flW (fun _ => false) hs)))))]) ∧ ((flW (fun _ => false) qs || (flW (fun _ => false) ns || (flW t7L ts || (flW leL ls || flW (fun _ => false) hs)))) = false → Own W.heap.size w' v (bytesZ [lo, pa, no] ++ (listW q7Z qs ++ (listW n5Z ns ++ (listW t7Z ts ++ (listW leZ ls ++ listW h2Z hs))))).length (bytesZ [lo, pa, no] ++ (listW q7Z qs ++ (listW n5Z ns ++ (listW t7Z ts ++ (listW leZ ls ++ listW h2Z hs)))))) ∧ ((flW (fun _ => false) qs || (flW (fun _ => false) ns || (flW t7L ts || (flW leL ls || flW (fun _ => false) hs)))) = true → v = .slice none 0 0) ∧ Below W.heap.size W w')) => C)
  go_enter Try.func19, Try.ntmps19
  go_upto_region 1 with fail
  have B0 := (Below.refl w.heap.size w).alloc (Nat.le_refl _) (.cells #[.int .i64 lo, .int .i64 pa, .int .i64 no, .slice qa qn qc, .slice na nn nc, .slice ta tn tc, .slice la ln lc, .slice ha hn hc] 54)
  have X1 := hid (Blk.alloc w #[.int .i64 lo, .int .i64 pa, .int .i64 no, .slice qa qn qc, .slice na nn nc, .slice ta tn tc, .slice la ln lc, .slice ha hn hc] (54))
  have C1 := hid (encS_any lo pa no qa qn qc qs na nn nc ns ta tn tc ts la ln lc ls ha hn hc hs (w.alloc (.cells #[.int .i64 lo, .int .i64 pa, .int .i64 no, .slice qa qn qc, .slice na nn nc, .slice ta tn tc, .slice la ln lc, .slice ha hn hc] 54)) ilo ipa ino (hqs.below B0) hqk (hns.below B0) hnk (hts.below B0) (fun x hx => ⟨(hta x hx).1.below B0, (hta x hx).2⟩) (hls.below B0) (fun x hx => ⟨(hla x hx).1.below B0, (hla x hx).2⟩) (hhs.below B0) hhk)
  generalize hbs : (bytesZ [lo, pa, no] ++ (listW q7Z qs ++ (listW n5Z ns ++ (listW t7Z ts ++ (listW leZ ls ++ listW h2Z hs))))) = BS at *
  generalize hfl : (flW (fun _ => false) qs || (flW (fun _ => false) ns || (flW t7L ts || (flW leL ls || flW (fun _ => false) hs)))) = FL at *
  have HBS := hid hbs
  have HFL := hid hfl
  clear hbs hfl K0
  have zs : w.heap.size ≤ (w.alloc (.cells #[.int .i64 lo, .int .i64 pa, .int .i64 no, .slice qa qn qc, .slice na nn nc, .slice ta tn tc, .slice la ln lc, .slice ha hn hc] 54)).heap.size := by simp
  generalize (w.alloc (.cells #[.int .i64 lo, .int .i64 pa, .int .i64 no, .slice qa qn qc, .slice na nn nc, .slice ta tn tc, .slice la ln lc, .slice ha hn hc] 54)) = W0 at *
  have LD := X1.out.loadAt Try.underlying54 rfl sizeSta
  generalize hlg : lngE FL = EE at *
  have HLG := hid hlg
  clear hlg
  go_wp2_with (refine wpList_load_at 54 rfl (.tmp 1) rfl _ _ rfl _ LD ?_)
  with_reducible refine C1.out.mono ?_
  rintro e W1 ⟨v1, rfl, h1, h2, k1⟩
  have G1 := hid h1
  have G2 := hid h2
  have hB := hid (B0.trans (k1.mono zs))
  clear C1 LD h1 h2 k1 B0 X1
  go_wp2_with fail
  refine bodyPost_ret (v := .tuple #[v1, .int .i64 EE]) (by simp [results, Try.results19, go_sem]) rfl ?_
  rw [HBS.out, HFL.out, HLG.out]
  exact ⟨_, rfl, fun h => (G1.out h).base zs, G2.out, hB.out⟩
end Go.Proofs.Ythkbddnkcljjpaa
