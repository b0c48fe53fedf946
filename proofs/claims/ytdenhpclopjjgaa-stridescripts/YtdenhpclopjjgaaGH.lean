/-
  Contracts of stride: Delete.
-/
import Derived.Test.YtdenhpclopjjgaaGG
namespace Go.Proofs.Ytdenhpclopjjgaa
open Go.RowKit Go.Deep Go.Maps
set_option linter.unusedVariables false
set_option linter.unusedSimpArgs false
attribute [local go_sem ↓] appC_eq clrG_eq

set_option maxRecDepth 100000 in
set_option maxHeartbeats 4000000 in
theorem cdel_any (r n cap i : Nat) (l : List Cl) (w : World) (h : RowC w r n cap (ca l)) (hl : l.length = n) (hi : i < n) (hn : n ≤ 1024) :
    Calls Try.prog 32 #[.slice (some ⟨r, 0, none⟩) n cap, .int .i64 (i : Int), .int .i64 ((i : Int) + 1)] w fun e w' => e = .returned (.slice (some ⟨r, 0, none⟩) (n - 1) cap) ∧ RowC w' r (n - 1) cap (ca (delC l i)) ∧ Tn r r w w' := by
  obtain ⟨m, rfl⟩ : ∃ m, n = m + 1 := ⟨n - 1, by omega⟩
  obtain ⟨i0, hi0, hz0, hzs, hzb⟩ := info_parts infoC
  have hF := h.flat hl
  have hsp := @RowC.isSome _ _ _ _ _ h
  have hfz := h.fz
  have hle := h.le
  have hmx := h.mx
  have hshape := h.hp
  obtain ⟨F, hFd⟩ : ∃ F, F = l.flatMap Cl.cs := ⟨_, rfl⟩
  have hFl : F.length = (m + 1) * 3 := by rw [hFd, flat_len Cl.cs_len, hl]
  have hF1 : ∀ v ∈ F, v.oneCell' = true := by
    intro v hv
    rw [hFd] at hv
    obtain ⟨x, _, hx⟩ := List.mem_flatMap.1 hv
    exact x.one v hx
  rw [← hFd] at hF
  have hdl : (F.drop ((i + 1) * 3)).length = (m - i) * 3 := by rw [List.length_drop, hFl]; omega
  obtain ⟨W1, hW1⟩ : ∃ W1, W1 = w.drew.setCells r (i * 3) (F.drop ((i + 1) * 3)) := ⟨_, rfl⟩
  have hap : ∀ ty c, (appC #[34, 34] ty #[.slice (some ⟨r, 0, none⟩) i cap, .slice (some ⟨r, (i + 1) * 3, none⟩) (m - i) c]).run Try.prog w.drew = .ok (.slice (some ⟨r, 0, none⟩) m cap) W1 := fun ty c => by
    have := run_append_room_cells (P := Try.prog) w.drew 34 ty 41 i0 Try.underlying34 hi0 r 0 i cap ⟨r, (i + 1) * 3, none⟩ (m - i) c (F.drop ((i + 1) * 3)) (by rw [hzs]; exact hdl)
      (fun j u hj => by rw [Addr.add_lit]; exact hF _ u (by rwa [List.getElem?_drop] at hj)) (fun u hu => hF1 u (List.mem_of_mem_drop hu)) (by omega) (fun j hj => hsp (by rw [hzs]; omega)) (fun j hj => hfz _)
    rw [hzs, show i + (m - i) = m by omega, Nat.zero_add, ← hW1] at this
    exact this
  have hap0 : i = m → ∀ ty a c, (appC #[34, 34] ty #[.slice (some ⟨r, 0, none⟩) i cap, .slice (some a) 0 c]).run Try.prog w.drew = .ok (.slice (some ⟨r, 0, none⟩) m cap) W1 := fun e ty a c => by
    have h0 : F.drop ((i + 1) * 3) = [] := by rw [List.drop_eq_nil_iff]; omega
    have := run_append_room_cells (P := Try.prog) w.drew 34 ty 41 i0 Try.underlying34 hi0 r 0 i cap a 0 c [] (by simp)
      (fun j u hj => by simp at hj) (fun u hu => by simp at hu) (by omega) (fun j hj => by simp at hj) (fun j hj => by simp at hj)
    rw [h0] at hW1
    rw [hzs, Nat.zero_add, Nat.add_zero, ← hW1] at this
    rw [← e]; exact this
  have hsp1 : ∀ k, k < cap * 3 → (W1.cell? ⟨r, k, none⟩).isSome = true := fun k hk => by
    rw [hW1]
    exact isSome_set _ (w := w.drew) (fun j hj => hsp (show i * 3 + j < cap * 3 by rw [hdl] at hj; omega)) k (hsp hk)
  have hfz1 : ∀ k, W1.frozen? ⟨r, k, none⟩ = false := fun k => by rw [hW1, World.frozen?_setCells]; exact hfz k
  obtain ⟨W2, hW2⟩ : ∃ W2, W2 = W1.setCells r (m * 3) [.int .i64 0, .int .i64 0, .int .i64 0] := ⟨_, rfl⟩
  have hcl : ∀ ty c, (clrG #[34] ty #[.slice (some ⟨r, m * 3, none⟩) 1 c]).run Try.prog W1 = .ok (.tuple #[]) W2 := fun ty c => by
    rw [hW2]
    exact run_clear1 W1 r (m * 3) c ty (fun j hj => hsp1 _ (by omega)) (fun j hj => hfz1 _)
  have hT : Hid (Tn r r w W2) := by
    rw [hW2, hW1]
    exact tn_setCells (tn_setCells (Tn.of (Below.refl _ w).drew) (.inl rfl)) (.inl rfl)
  have hR : Hid (RowC W2 r m cap (ca (delC l i))) := by
    refine RowC.mk' (by rw [delC_len (by omega), hl]; rfl) (by omega) hmx ?_ ?_
    · rw [hW2, hW1]
      exact shape_set (w := w) _ _ _ (shape_set (w := w) _ _ _ hshape)
    · intro p u hpu
      have hdc : (delC l i).flatMap Cl.cs = F.take (i * 3) ++ F.drop ((i + 1) * 3) := by
        unfold delC
        rw [List.flatMap_append, flat_take Cl.cs_len l (by omega), flat_drop Cl.cs_len l (by omega), ← hFd]
      rw [hdc] at hpu
      have hpl : p < m * 3 := by
        have := (List.getElem?_eq_some_iff.1 hpu).1
        rw [List.length_append, List.length_take, hdl, hFl] at this
        omega
      rw [hW2, World.cell?_setCells_out _ _ _ _ _ (fun _ _ => by show p < m * 3 ∨ _; omega), hW1]
      rcases Nat.lt_or_ge p (i * 3) with hp | hp
      · rw [World.cell?_setCells_out _ _ _ _ _ (fun _ _ => by show p < i * 3 ∨ _; omega)]
        rw [List.getElem?_append_left (by rw [List.length_take, hFl]; omega), List.getElem?_take, if_pos hp] at hpu
        exact hF p u hpu
      · rw [List.getElem?_append_right (by rw [List.length_take, hFl]; omega), List.length_take, hFl, show min (i * 3) ((m + 1) * 3) = i * 3 by omega] at hpu
        obtain ⟨hq1, hq2⟩ := List.getElem?_eq_some_iff.1 hpu
        have := World.cell?_setCells_in r (F.drop ((i + 1) * 3)) (i * 3) w.drew (fun j hj => hsp (by omega)) (p - i * 3) hq1
        rw [show i * 3 + (p - i * 3) = p by omega, hq2] at this
        exact this
  clear hF hsp hfz hshape hFl hF1 hdl hW1 hsp1 hfz1 hW2 h hFd hi0 hz0 hzs hzb
  have hb1 : (0 : Int) ≤ (i : Int) := by omega
  have hb2 : (i : Int) ≤ (i : Int) + 1 := by omega
  have hb3 : (i : Int) + 1 ≤ (m : Int) + 1 := by omega
  have hb4 : (m : Int) + 1 ≤ (cap : Int) := by omega
  have hb5 : (0 : Int) ≤ (i : Int) + 1 := by omega
  have hb6 : (i : Int) ≤ (cap : Int) := by omega
  have hb7 : (i : Int) ≤ (m : Int) + 1 := by omega
  have hb8 : (m : Int) ≤ (m : Int) + 1 := by omega
  have hb9 : (0 : Int) ≤ (m : Int) := by omega
  have htn : ((i : Int) + 1).toNat = i + 1 := by omega
  have htm : ((m : Int) + 1).toNat = m + 1 := by omega
  have hne : ((i : Int) == (i : Int) + 1) = false := by simp; omega
  have hcm : ¬ (cap = m) := by omega
  have hni : ¬ (m + 1 = i) := by omega
  go_enter Try.func32, Try.ntmps32
  by_cases hc : cap = i + 1
  · have him : i = m := by omega
    have hap1 := hap0 him
    subst him
    subst hc
    clear hap hap0
    go_wp2_with fail
    go_region_with fail
    all_goals go_wp2
    all_goals
      go_ret
      exact ⟨rfl, hR.out, hT.out⟩
  · clear hap0
    go_wp2_with fail
    go_region_with fail
    all_goals go_wp2
    all_goals
      go_ret
      exact ⟨rfl, hR.out, hT.out⟩

end Go.Proofs.Ytdenhpclopjjgaa
