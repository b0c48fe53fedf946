/-
  Rows of numbers that came in, with their room: what the form's own reach, and what a bound on the arguments' bulk, says of it.
-/
import Derived.Test.YtpkifcoichjnbaaOpen
import Derived.Test.YtpkifcoichjnbaaRows
import Derived.SizedLaws
import Derived.JoinedCond
namespace Go.Proofs.Ytpkifcoichjnbaa
open Go.ChangeShapes Go.WideShapes Go.ChangeAt Go.RowKit Go.Deep

section
variable {H : Type} {enc : TypeId × Value → H} {P : Program} {w : World} {base b0 : Nat} {spare : Nat → Bool} {held : Bool} {r : Reach} {t e : TypeId} {v : Value} {d : DataW H} {p : List MemPlace}

/-- Within uint64, within a byte. -/
def U64 (a : Int) : Prop := 0 ≤ a ∧ a ≤ 18446744073709551615
def U8 (a : Int) : Prop := 0 ≤ a ∧ a ≤ 255
theorem val_u64 (ht : P.underlying t = some (.int .u64)) (hv : Value.okWide P w r b0 t v) (h : DataW.Trod enc P w base spare held t v d p) : ∃ x, v = .int .u64 x ∧ U64 x := by
  obtain ⟨x, rfl, _, _, wx⟩ := open_int ht hv h
  exact ⟨x, rfl, bounds_u64 wx⟩
theorem val_u8 (ht : P.underlying t = some (.int .u8)) (hv : Value.okWide P w r b0 t v) (h : DataW.Trod enc P w base spare held t v d p) : ∃ x, v = .int .u8 x ∧ U8 x := by
  obtain ⟨x, rfl, _, _, wx⟩ := open_int ht hv h
  exact ⟨x, rfl, bounds_u8 wx⟩

/-- A datum that is a row with so much room. -/
def DRow (d : DataW H) (cap : Nat) : Prop := cap = 0 ∨ ∃ elems spare, d = .slice elems spare ∧ elems.length + spare.length = cap

theorem val_row2 {k : IntKind} {a : Option Addr} {len cap : Nat} (ht : P.underlying t = some (.slice e)) (he : P.underlying e = some (.int k)) (hce : P.cellsOf e = 1)
    (h : DataW.Trod enc P w base (fun _ => true) held t (.slice a len cap) d p) : ∃ zs, IsRow k w a len cap zs ∧ DRow d cap := by
  obtain ⟨fuel, hf⟩ := h
  rcases open_ints ht he hce hf with ⟨hcs, _⟩ | ⟨x, l, c, zs, hcs, _, hl, hm, hz, hx, hcell, hwz⟩
  · simp [Value.cells] at hcs
    obtain ⟨rfl, rfl, rfl⟩ := hcs
    exact ⟨[], .inl ⟨rfl, rfl, rfl, rfl⟩, .inl rfl⟩
  · simp [Value.cells] at hcs
    obtain ⟨rfl, rfl, rfl⟩ := hcs
    simp only [Prod.mk.injEq] at hx
    refine ⟨zs, .inr ⟨_, rfl, hl, hm, by simpa using hz, hcell, hwz⟩, .inr ⟨_, _, hx.1, ?_⟩⟩
    simp [lits] at hz ⊢
    omega

theorem sized_cap {ts : List TypeId} {ds : List (DataW H)} {cap j by' : Nat} (hd : DRow d cap) (h : (DataW.weightsEach P ts ds).all (· ≤ reachBytes) = true) (h1 : ts[j]? = some t) (h2 : ds[j]? = some d) (hu : P.underlying t = some (.slice e)) (hb : P.bytesOf e = by') : cap * by' ≤ 140737488351232 := by
  rcases hd with rfl | ⟨elems, sp, rfl, hl⟩
  · simp
  · have := sized_slice h h1 h2 hu
    rw [hl, hb] at this
    simpa [reachBytes] using this

theorem bulk_one (d : DataW H) : 1 ≤ Rows.uptoBulk d := by
  cases d with
  | lit l => cases l <;> simp [Rows.uptoBulk]
  | nil => simp [Rows.uptoBulk]
  | ptr d => simp [Rows.uptoBulk]
  | slice elems spare => simp [Rows.uptoBulk]
  | agg parts => simp [Rows.uptoBulk]
  | iface t d => simp [Rows.uptoBulk]
  | map entries => simp [Rows.uptoBulk]
  | held h => simp [Rows.uptoBulk]
theorem bulk_len (l : List (DataW H)) : l.length ≤ Rows.uptoBulkAll l := by
  induction l with
  | nil => simp [Rows.uptoBulkAll]
  | cons x r ih => have := bulk_one x; simp only [Rows.uptoBulkAll, List.length_cons]; omega
theorem bulk_part {l : List (DataW H)} (h : d ∈ l) : Rows.uptoBulk d ≤ Rows.uptoBulkAll l := by
  induction l with
  | nil => cases h
  | cons x r ih =>
    simp only [Rows.uptoBulkAll]
    cases List.mem_cons.1 h with
    | inl e => subst e; omega
    | inr e => have := ih e; omega
theorem upto_cap {l : List (DataW H)} {cap : Nat} (hd : DRow d cap) (hk : Rows.uptoSmall H l = true) (h : d ∈ l) : cap ≤ 1048576 := by
  have hb : Rows.uptoBulkAll l ≤ 1048576 := by
    unfold Rows.uptoSmall at hk
    exact of_decide_eq_true hk
  have hp := bulk_part h
  rcases hd with rfl | ⟨elems, sp, rfl, hl⟩
  · omega
  · have h1 := bulk_len elems
    have h2 := bulk_len sp
    simp only [Rows.uptoBulk] at hp
    omega
end

end Go.Proofs.Ytpkifcoichjnbaa
