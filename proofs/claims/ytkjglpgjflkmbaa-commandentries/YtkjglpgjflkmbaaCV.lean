/-
  Contracts of command: the reader's list of numbers.
-/
import Derived.Test.YtkjglpgjflkmbaaCN
import Derived.Test.YtkjglpgjflkmbaaCS
import Derived.Test.YtkjglpgjflkmbaaCT
import Derived.Stop.RegionWithIn
import Derived.Shelf.Abstract
import Derived.Shelf.RegionOpen
import Derived.TacticsInMore
import Derived.LoopNIn
import Derived.LoopIn
import Derived.Maps.AppendAt
namespace Go.Proofs.Ytkjglpgjflkmbaa
open Go.RowKit Go.Deep Go.Maps
set_option linter.unusedVariables false
set_option linter.unusedSimpArgs false
attribute [local go_sem] Oper.semAt_some
attribute [local go_sem ↓] appF_eq

/-- The reader as it stands while a list is read: k things behind the count. -/
def lsP {α : Type} (pe : Int → Int → α × Int × Int) (l : List Int) (A E : Int) (k : Nat) : Int × Int := if k = 0 then (A, E) else lsS pe (upT l A E 1024 3).2.1 (upT l A E 1024 3).2.2 k
theorem lsP_zero {α : Type} (pe : Int → Int → α × Int × Int) (l : List Int) (A E : Int) : lsP pe l A E 0 = (A, E) := rfl
theorem lsP_succ {α : Type} (pe : Int → Int → α × Int × Int) (l : List Int) (A E : Int) (k : Nat) : lsP pe l A E (k + 1) = lsS pe (upT l A E 1024 3).2.1 (upT l A E 1024 3).2.2 (k + 1) := rfl
/-- How many things of a list are read, the things, and the reader behind them. -/
def liC {α : Type} (pe : Int → Int → α × Int × Int) (l : List Int) (A E : Int) : Nat := lsC pe (upT l A E 1024 3).2.1 (upT l A E 1024 3).2.2 (upT l A E 1024 3).1
def liL {α : Type} (pe : Int → Int → α × Int × Int) (l : List Int) (A E : Int) : List α := lsL pe (upT l A E 1024 3).2.1 (upT l A E 1024 3).2.2 (upT l A E 1024 3).1
def liF {α : Type} (pe : Int → Int → α × Int × Int) (l : List Int) (A E : Int) : Int × Int := lsF pe (upT l A E 1024 3).2.1 (upT l A E 1024 3).2.2 (upT l A E 1024 3).1
/-- The k-th thing. -/
def liV {α : Type} (pe : Int → Int → α × Int × Int) (l : List Int) (A E : Int) (k : Nat) : α := lsV pe (upT l A E 1024 3).2.1 (upT l A E 1024 3).2.2 k
/-- The first k things. -/
def liT {α : Type} (pe : Int → Int → α × Int × Int) (l : List Int) (A E : Int) (k : Nat) : List α := (List.range k).map (liV pe l A E)
theorem liT_len {α : Type} (pe : Int → Int → α × Int × Int) (l : List Int) (A E : Int) (k : Nat) : (liT pe l A E k).length = k := by simp [liT]
theorem liT_succ {α : Type} (pe : Int → Int → α × Int × Int) (l : List Int) (A E : Int) (k : Nat) : liT pe l A E (k + 1) = liT pe l A E k ++ [liV pe l A E k] := by
  unfold liT; rw [List.range_succ, List.map_append]; rfl
theorem liT_all {α : Type} (pe : Int → Int → α × Int × Int) (l : List Int) (A E : Int) : liT pe l A E (liC pe l A E) = liL pe l A E := rfl
theorem upT_at (l : List Int) (A E m f : Int) (h0 : 0 ≤ A) (h1 : A ≤ l.length) : 0 ≤ (upT l A E m f).2.1 ∧ (upT l A E m f).2.1 ≤ l.length := by
  unfold upT
  split
  · split
    · exact ⟨h0, h1⟩
    · exact rd_at l A h0 h1
  · exact ⟨h0, h1⟩
theorem upT_bd (l : List Int) (A E m f : Int) (hb : BB l) (hm : 0 ≤ m) : 0 ≤ (upT l A E m f).1 ∧ (upT l A E m f).1 ≤ m := by
  unfold upT
  have := rd_bd l A hb
  split
  · split
    · exact ⟨Int.le_refl 0, hm⟩
    · exact ⟨this.1, by omega⟩
  · exact ⟨Int.le_refl 0, hm⟩
theorem liC_le {α : Type} (pe : Int → Int → α × Int × Int) (l : List Int) (A E : Int) (hb : BB l) : (liC pe l A E : Int) ≤ (upT l A E 1024 3).1 ∧ liC pe l A E ≤ 1024 := by
  have h := lsC_le pe (upT l A E 1024 3).2.1 (upT l A E 1024 3).2.2 (upT l A E 1024 3).1
  have := upT_bd l A E 1024 3 hb (by omega)
  unfold liC; omega
theorem lsS_at {α : Type} {pe : Int → Int → α × Int × Int} {n : Nat} (hp : ∀ A E : Int, 0 ≤ A → A ≤ (n : Int) → 0 ≤ (pe A E).2.1 ∧ (pe A E).2.1 ≤ (n : Int)) {A E : Int} (h0 : 0 ≤ A) (h1 : A ≤ n) : ∀ k, 0 ≤ (lsS pe A E k).1 ∧ (lsS pe A E k).1 ≤ n
  | 0 => ⟨h0, h1⟩
  | k + 1 => by have h := lsS_at hp (E := E) h0 h1 k; exact hp _ _ h.1 h.2
theorem liF_at {α : Type} {pe : Int → Int → α × Int × Int} {l : List Int} (hp : ∀ A E, 0 ≤ A → A ≤ (l.length : Int) → 0 ≤ (pe A E).2.1 ∧ (pe A E).2.1 ≤ (l.length : Int)) {A E : Int} (h0 : 0 ≤ A) (h1 : A ≤ l.length) : 0 ≤ (liF pe l A E).1 ∧ (liF pe l A E).1 ≤ l.length := by
  have h := upT_at l A E 1024 3 h0 h1
  unfold liF lsF
  split
  · exact lsS_at hp h.1 h.2 _
  · exact lsS_at hp h.1 h.2 _

theorem rint_el (p : Nat) (a : Option Addr) (n c : Nat) (l : List Int) (A E : Int) (w : World) (h : RdC w p (.slice a n c) A E) (hl : HoldsB w a n c l) (h0 : 0 ≤ A) (h1 : A ≤ n) (hne : ∀ b o, a = some ⟨b, o, none⟩ → 0 < n → b ≠ p) :
    Calls Try.prog 86 #[.pointer (some ⟨p, 0, none⟩)] w fun e w' => e = .returned (.int .i64 (tkI l A E).1) ∧ RdC w' p (.slice a n c) (tkI l A E).2.1 (tkI l A E).2.2 ∧ RK p w w' :=
  rint_any p a n c l A E w h hl ⟨by omega, by have := hl.2.1; omega⟩ hne

theorem elemsI_mk (p : Nat) (w : World) :
    Calls Try.prog 112 #[.pointer (some ⟨p, 0, none⟩), .func (.func 86) #[.pointer (some ⟨p, 0, none⟩)] #[]] w fun e w' => e = .returned (.func (.func 124) #[] #[.pointer (some ⟨w.heap.size, 0, none⟩), .pointer (some ⟨w.heap.size + 1, 0, none⟩)]) ∧ ∃ t1 t2, (w.alloc (.cells #[.pointer (some ⟨p, 0, none⟩)] t1)).alloc (.cells #[.func (.func 86) #[.pointer (some ⟨p, 0, none⟩)] #[]] t2) = w' := by
  go_enter Try.func112, Try.ntmps112
  go_wp2
  go_ret
  exact ⟨rfl, _, _, rfl⟩

set_option maxRecDepth 100000 in
set_option maxHeartbeats 4000000 in
theorem elemsI_turns (m : Nat) (hm : 2 ≤ m) (p Bg Bn : Nat) (a : Option Addr) (n c : Nat) (l : List Int) (A E : Int) (w : World) (h0 : 0 ≤ A) (h1 : A ≤ n) (hlen : l.length = n) (hn : n ≤ 9223372036854775807) (hbb : BB l) (hne : ∀ b o, a = some ⟨b, o, none⟩ → 0 < n → b ≠ p) (ng : Bg ≠ p) (nb : Bn ≠ p) :
    TurnsX Fence.wide m Try.prog 124 #[.pointer (some ⟨Bg, 0, none⟩), .pointer (some ⟨Bn, 0, none⟩)] (liC (tkI l) l A E)
      (fun k W => W.cell? ⟨Bg, 0, none⟩ = some (.pointer (some ⟨p, 0, none⟩)) ∧ W.cell? ⟨Bn, 0, none⟩ = some (.func (.func 86) #[.pointer (some ⟨p, 0, none⟩)] #[]) ∧ RdC W p (.slice a n c) (lsP (tkI l) l A E k).1 (lsP (tkI l) l A E k).2 ∧ HoldsB W a n c l)
      (fun k x W B => x = .int .i64 (liV (tkI l) l A E k) ∧ RdC B p (.slice a n c) (lsP (tkI l) l A E (k + 1)).1 (lsP (tkI l) l A E (k + 1)).2 ∧ RK p W B)
      (fun W B => RdC B p (.slice a n c) (liF (tkI l) l A E).1 (liF (tkI l) l A E).2 ∧ RK p W B) w := fun lp J JM JF W hW hRd hSt hFi hY hJ0 => by
  have hm1 : 1 ≤ m := by omega
  obtain ⟨cg0, cn0, r0, l0⟩ := hRd 0 W hJ0
  rw [lsP_zero] at r0
  have CB := hid (upT_bd l A E 1024 3 hbb (by omega))
  have AT := hid (upT_at l A E 1024 3 h0 (by omega))
  have AS := hid (fun k => lsS_at (pe := (tkI l)) (n := n) (E := (upT l A E 1024 3).2.2) (fun A E h0 h1 => by have := tkI_at l A E h0 (by omega); omega) AT.out.1 (by have := AT.out.2; omega) k)
  have UP := hid (upto_any p a n c l A E 1024 3 W r0 l0 ⟨by omega, by omega⟩ (by omega) hne)
  have NN : Hid (liC (tkI l) l A E = lsN (tkI l) (upT l A E 1024 3).2.1 (upT l A E 1024 3).2.2 (upT l A E 1024 3).1.toNat 0) := rfl
  have FF : Hid (liF (tkI l) l A E = if liC (tkI l) l A E < (upT l A E 1024 3).1.toNat then lsS (tkI l) (upT l A E 1024 3).2.1 (upT l A E 1024 3).2.2 (liC (tkI l) l A E + 1) else lsS (tkI l) (upT l A E 1024 3).2.1 (upT l A E 1024 3).2.2 (liC (tkI l) l A E)) := rfl
  have ST := hid hSt
  have FI := hid hFi
  have YY := hid hY
  have RR := hid hRd
  have J0 := hid hJ0
  have PS := hid (fun k => lsP_succ (tkI l) l A E k)
  have PV : Hid (∀ k, liV (tkI l) l A E k = lsV (tkI l) (upT l A E 1024 3).2.1 (upT l A E 1024 3).2.2 k) := fun k => rfl
  have HB := hid l0
  have CN := hid cn0
  clear hSt hFi hY hRd hJ0 cn0 r0 l0
  generalize hli : liC (tkI l) l A E = N at *
  generalize liF (tkI l) l A E = FN at *
  generalize hup : upT l A E 1024 3 = U at *
  obtain ⟨cc, A0, E0⟩ := U
  simp only at CB AT AS UP NN FF PS PV
  obtain ⟨C, rfl⟩ : ∃ C : Nat, cc = (C : Int) := ⟨cc.toNat, by have := CB.out.1; omega⟩
  have hC : C ≤ 1024 := by have := CB.out.2; omega
  have NL := hid (lsN_le (tkI l) A0 E0 C 0)
  have NY := hid (lsN_yes (tkI l) A0 E0 C 0)
  have NO := hid (lsN_no (tkI l) A0 E0 C 0)
  simp only [Int.toNat_natCast] at NN FF
  rw [← NN.out] at NL NY NO
  have hNC : N ≤ C := by have := NL.out.2; omega
  clear NN CB AT hup hli NL
  refine callsIn_of_wp Try.func124 rfl trivial ?_ rfl
  simp only [Try.ntmps124, List.size_toArray, List.length_cons, List.length_nil, Nat.reduceAdd, Nat.reduceSub, Array.replicate_succ, Array.replicate_zero, List.push_toArray, List.append_toArray, List.nil_append, List.cons_append]
  gi_wp2
  refine ⟨trivial, ?_⟩
  refine (callsIn_wide.2 UP.out).mono ?_
  rintro e W1 ⟨rfl, r1, k1⟩
  have SW : Hid (∃ W0, J 0 W0 ∧ RK p W0 W1 ∧ RdC W1 p (.slice a n c) A0 E0) := ⟨W, J0.out, k1, r1⟩
  clear UP cg0 r1 k1
  gi_wp2
  gi_loopw [7] (fun v wr => ∃ k : Nat, k ≤ N ∧ v = .int .u64 (k : Int) ∧ Hid (∃ W0, J k W0 ∧ RK p W0 wr ∧ RdC wr p (.slice a n c) (lsS (tkI l) A0 E0 k).1 (lsS (tkI l) A0 E0 k).2)) (fun v _ => N + 1 - (intOf v).toNat)
  case atStart => exact ⟨0, by omega, rfl, SW.out⟩
  case round =>
    clear SW
    obtain ⟨k, hk, rfl, hX⟩ := hrel
    obtain ⟨W0, hJ, hK, hR⟩ := hX.out
    obtain ⟨cg, cn, _, hB⟩ := RR.out k W0 hJ
    replace cg := hK.keep cg ng
    replace cn := hK.keep cn nb
    replace hB := hK.holds hB hne
    have hK' := hid hK
    have hJ' := hid hJ
    have hRR := hid hR
    have C1 := hid (rint_el p a n c l (lsS (tkI l) A0 E0 k).1 (lsS (tkI l) A0 E0 k).2 wr hR hB (AS.out k).1 (AS.out k).2 hne)
    clear hX hJ hK hR hB
    have ka : (0 : Int) ≤ (k : Int) := by omega
    by_cases hlt : k < C
    · have kb : (k : Int) < (C : Int) := by omega
      have tb : decide ((k : Int) < (C : Int)) = true := by simp; omega
      have EV : Hid (lsV (tkI l) A0 E0 k = ((tkI l) (lsS (tkI l) A0 E0 k).1 (lsS (tkI l) A0 E0 k).2).1) := rfl
      have ES : Hid (lsS (tkI l) A0 E0 (k + 1) = ((tkI l) (lsS (tkI l) A0 E0 k).1 (lsS (tkI l) A0 E0 k).2).2) := rfl
      generalize ((tkI l) (lsS (tkI l) A0 E0 k).1 (lsS (tkI l) A0 E0 k).2) = Z at *
      obtain ⟨z, A1, E1⟩ := Z
      simp only at C1 EV ES
      gi_wp2
      refine ⟨trivial, ?_⟩
      refine (callsIn_wide.2 C1.out).mono ?_
      rintro e W2 ⟨rfl, r2, k2⟩
      have K2 := hid (hK'.out.trans k2)
      have R2 := hid r2
      have cg2 := k2.keep cg ng
      obtain ⟨⟨q0, q1, q2⟩, qf0, qf1, qf2⟩ := r2
      clear C1 qf0 qf1 qf2 q0 q1 k2 cg cn
      by_cases hN : k < N
      · have e0 : E1 = 0 := by have := NY.out k (by omega) hN; rw [ES.out] at this; exact this
        subst e0
        have hMJ := ST.out k (.int .i64 z) W0 W2 hJ'.out hN ⟨by rw [PV.out, EV.out], by rw [PS.out, ES.out]; exact R2.out, K2.out⟩
        obtain ⟨fn, tmps, assign, body, hy, hR⟩ := YY.out k (.int .i64 z) W2 hMJ hN
        have HR := hid hR
        clear hMJ hR
        gi_wp2
        refine HR.out.mono ?_
        rintro e W4 ⟨rfl, J4⟩
        have HJ4 := hid J4
        have P4 := hid (RR.out _ W4 J4)
        clear J4
        gi_wp2
        go_roundw
        case rel => exact ⟨k + 1, by omega, by go_num, W4, HJ4.out, RK.refl _ _, by have := P4.out.2.2.1; rw [PS.out] at this; exact this⟩
        case measure => simp [intOf]; omega
      · have ek : N = k := by omega
        subst ek
        have e0 : E1 ≠ 0 := by have := NO.out (by omega); rw [ES.out] at this; exact this
        have te : (E1 != 0) = true := by simpa using e0
        have HF := FI.out W0 W2 hJ'.out ⟨by rw [FF.out, if_pos hlt, ES.out]; exact R2.out, K2.out⟩
        have HF' := hid HF
        clear HF e0
        gi_wp2
        refine ⟨fun f hf => (by cases hf), ?_⟩
        gi_wp2
        refine bodyPost_ret (results_none rfl _ _ _) rfl ?_
        exact ⟨⟨_, rfl⟩, HF'.out⟩
    · have kc : k = C := by omega
      have kn : N = k := by omega
      subst kn
      have tb : decide ((N : Int) < (C : Int)) = false := by simp; omega
      obtain ⟨W0', hJ2, hK2, hR2⟩ : ∃ W0, J N W0 ∧ RK p W0 wr ∧ RdC wr p (.slice a n c) (lsS (tkI l) A0 E0 N).1 (lsS (tkI l) A0 E0 N).2 := ⟨W0, hJ'.out, hK'.out, hRR.out⟩
      have HF := FI.out W0' wr hJ2 ⟨by rw [FF.out, if_neg hlt]; exact hR2, hK2⟩
      have HF' := hid HF
      clear HF hJ2 hK2 hR2 C1
      gi_wp2
      go_end0
      exact ⟨⟨_, rfl⟩, HF'.out⟩

end Go.Proofs.Ytkjglpgjflkmbaa
