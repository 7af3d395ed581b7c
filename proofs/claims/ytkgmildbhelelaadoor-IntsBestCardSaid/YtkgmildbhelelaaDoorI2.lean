/-
  The plain mathematics of package ints, for the walks: prefixes, runs, the smallest of a prefix, differences as the program computes them. No program.
-/
import Derived.Test.YtkgmildbhelelaaDoorI1
namespace Go.Proofs.YtkgmildbhelelaaDoor.Ig
open Go.RowKit
open Ty (num encU zig zag I64 U64)
/-- The i-th number. -/
def nth (L : List Int) (i : Nat) : Int := L.getD i 0
theorem nth_mem {L : List Int} {i : Nat} (h : i < L.length) : nth L i ∈ L := by
  unfold nth
  rw [List.getD, List.getElem?_eq_getElem h]
  exact List.getElem_mem h
theorem nth_get {L : List Int} {i : Nat} (h : i < L.length) : nth L i = L[i] := by
  unfold nth
  rw [List.getD, List.getElem?_eq_getElem h]
  rfl
theorem nth_i64 {L : List Int} (hL : ∀ x ∈ L, I64 x) {i : Nat} (h : i < L.length) : I64 (nth L i) := hL _ (nth_mem h)
theorem len_encI (x : Int) : (encI x).length ≤ 9 := Ty.encU_len9 _
theorem len_flat (L : List Int) : (L.flatMap encI).length ≤ 9 * L.length := by
  induction L with
  | nil => simp
  | cons x L ih =>
    have := len_encI x
    simp only [List.flatMap_cons, List.length_append, List.length_cons]
    omega
theorem take_next {L : List Int} {k : Nat} (h : k < L.length) : L.take (k + 1) = L.take k ++ [nth L k] := by
  rw [List.take_succ_eq_append_getElem h, nth_get h]
theorem flat_next {L : List Int} {k : Nat} (h : k < L.length) : (L.take (k + 1)).flatMap encI = (L.take k).flatMap encI ++ encI (nth L k) := by
  rw [take_next h, List.flatMap_append]
  simp
theorem len_flat_take (L : List Int) (k : Nat) : ((L.take k).flatMap encI).length ≤ 9 * k := by
  have h1 := len_flat (L.take k)
  have h2 : (L.take k).length ≤ k := List.length_take_le _ _
  omega
/-- The number ahead of the i-th one; 0 ahead of the first. -/
def prv (L : List Int) : Nat → Int
  | 0 => 0
  | k + 1 => nth L k
theorem diffs_nth : ∀ (L : List Int) (p : Int) (k : Nat), k < L.length → nth (diffs p L) k = wrap64 (nth L k - (match k with | 0 => p | j + 1 => nth L j))
  | [], _, _, h => by simp at h
  | x :: L, p, 0, _ => rfl
  | x :: L, p, k + 1, h => by
    have hk : k < L.length := by simpa using h
    have ih := diffs_nth L x k hk
    have e1 : nth (diffs p (x :: L)) (k + 1) = nth (diffs x L) k := by simp [nth, diffs]
    have e2 : nth (x :: L) (k + 1) = nth L k := by simp [nth]
    rw [e1, e2, ih]
    cases k with
    | zero => rfl
    | succ j =>
      have : nth (x :: L) (j + 1) = nth L j := by simp [nth]
      simp only [this]
theorem diffs_at {L : List Int} {k : Nat} (h : k < L.length) : nth (diffs 0 L) k = wrap64 (nth L k - prv L k) := by
  rw [diffs_nth L 0 k h]
  cases k <;> rfl
theorem prv_i64 {L : List Int} (hL : ∀ x ∈ L, I64 x) {k : Nat} (h : k < L.length) : I64 (prv L k) := by
  cases k with
  | zero => show I64 0; unfold I64; omega
  | succ j => exact nth_i64 hL (by omega)
/-- The first k numbers are a maximal run. -/
def Run (L : List Int) (k : Nat) : Prop := 0 < k ∧ k ≤ L.length ∧ (∀ j, j < k → nth L j = nth L 0) ∧ (k < L.length → nth L k ≠ nth L 0)
theorem nth_drop (L : List Int) (k i : Nat) : nth (L.drop k) i = nth L (k + i) := by
  unfold nth
  rw [List.getD, List.getD, List.getElem?_drop]
theorem rep_of {L : List Int} {k : Nat} (hk : k ≤ L.length) {x : Int} (h : ∀ j, j < k → nth L j = x) : L = List.replicate k x ++ L.drop k := by
  have e : L.take k = List.replicate k x := by
    refine List.eq_replicate_iff.2 ⟨by rw [List.length_take]; omega, fun y hy => ?_⟩
    obtain ⟨i, hi, rfl⟩ := List.getElem_of_mem hy
    rw [List.length_take] at hi
    have := h i (by omega)
    rw [nth_get (by omega)] at this
    rw [List.getElem_take]
    exact this
  conv => lhs; rw [← List.take_append_drop k L, e]
theorem grp_head (L : List Int) : ∀ p ∈ (grp L).head?, p.2 = nth L 0 := by
  cases L with
  | nil => intro p hp; cases hp
  | cons x L =>
    intro p hp
    show p.2 = x
    unfold grp at hp
    cases hg : grp L with
    | nil =>
      rw [hg] at hp
      have : p = (1, x) := by simpa [join1] using hp.symm
      rw [this]
    | cons q g =>
      obtain ⟨j, y⟩ := q
      rw [hg] at hp
      by_cases e : y = x
      · subst e
        rw [join1_same] at hp
        have : p = (j + 1, y) := by simpa using hp.symm
        rw [this]
      · rw [join1_other e] at hp
        have : p = (1, x) := by simpa using hp.symm
        rw [this]
theorem grp_run {L : List Int} {k : Nat} (h : Run L k) : grp L = (k, nth L 0) :: grp (L.drop k) := by
  obtain ⟨h0, h1, h2, h3⟩ := h
  obtain ⟨j, rfl⟩ : ∃ j, k = j + 1 := ⟨k - 1, by omega⟩
  conv => lhs; rw [rep_of h1 h2]
  refine grp_rep j (nth L 0) (L.drop (j + 1)) _ rfl fun p hp => ?_
  have e := grp_head (L.drop (j + 1)) p hp
  have hne : L.drop (j + 1) ≠ [] := by intro e; rw [e] at hp; cases hp
  have hl : j + 1 < L.length := by
    rcases Nat.lt_or_ge (j + 1) L.length with h | h
    · exact h
    · exact absurd (List.drop_eq_nil_of_le h) hne
  rw [e, nth_drop]
  exact h3 hl
theorem run_uniq {L : List Int} {k j : Nat} (h : Run L k) (g : Run L j) : k = j := by
  have e := (grp_run h).symm.trans (grp_run g)
  have := (List.cons.inj e).1
  exact (Prod.mk.inj this).1
/-- The bytes of the runs up to k numbers: what is still to come is those of the others. -/
theorem runs_next {L : List Int} {k : Nat} (h : Run L k) : (grp L).flatMap encR = (encU k ++ encI (nth L 0)) ++ (grp (L.drop k)).flatMap encR := by
  rw [grp_run h]
  simp [encR]
theorem low_next {L : List Int} {k : Nat} (h0 : 0 < k) (h : k < L.length) : low (L.take (k + 1)) = min (low (L.take k)) (nth L k) := by
  rw [take_next h]
  cases L with
  | nil => simp at h
  | cons x L =>
    obtain ⟨j, rfl⟩ : ∃ j, k = j + 1 := ⟨k - 1, by omega⟩
    simp only [List.take_succ_cons, List.cons_append, low, List.foldl_append, List.foldl_cons, List.foldl_nil]
theorem low_one {L : List Int} (h : 0 < L.length) : low (L.take 1) = nth L 0 := by
  cases L with
  | nil => simp at h
  | cons x L => rfl
theorem take_ne {L : List Int} {k : Nat} (h0 : 0 < k) (h : k ≤ L.length) : L.take k ≠ [] := by
  intro e
  have := congrArg List.length e
  rw [List.length_take, List.length_nil] at this
  omega
theorem low_i64 {L : List Int} (hL : ∀ x ∈ L, I64 x) (h : 0 < L.length) : I64 (low L) := hL _ (low_mem L (by intro e; rw [e] at h; simp at h))
theorem lowt_i64 {L : List Int} (hL : ∀ x ∈ L, I64 x) {k : Nat} (h0 : 0 < k) (h : k ≤ L.length) : I64 (low (L.take k)) := hL _ (List.mem_of_mem_take (low_mem _ (take_ne h0 h)))
theorem off_nth {L : List Int} {i : Nat} (h : i < L.length) : ((off L i : Nat) : Int) = nth L i - low L := by
  have := low_le L _ (nth_mem h)
  unfold off
  rw [List.getD, List.getElem?_eq_getElem h]
  rw [nth_get h] at this ⊢
  simp only [Option.getD_some]
  omega
/-- A difference as the program computes it. -/
theorem off_wrap {L : List Int} (hL : ∀ x ∈ L, I64 x) {i : Nat} (h : i < L.length) : IntKind.u64.wrap (IntKind.u64.wrap (nth L i) - IntKind.u64.wrap (low L)) = ((off L i : Nat) : Int) := by
  have h1 := nth_i64 hL h
  have h2 := low_i64 hL (by omega)
  have h3 := off_nth h
  have h4 := low_le L _ (nth_mem h)
  unfold I64 at h1 h2
  rw [h3]
  simp only [IntKind.wrap_u64]
  omega
/-- A sum as the program computes it. -/
theorem sum_wrap {x : Int} {n : Nat} : wrap64 (IntKind.u64.wrap (IntKind.u64.wrap x + (n : Int))) = wrap64 (x + (n : Int)) := by
  simp only [IntKind.wrap_u64]
  unfold wrap64
  omega
theorem len_grp (L : List Int) : (grp L).length ≤ L.length := by
  induction L with
  | nil => simp [grp]
  | cons x L ih =>
    have e : grp (x :: L) = join1 x (grp L) := rfl
    rw [e]
    cases hg : grp L with
    | nil => simp [join1]
    | cons q g =>
      obtain ⟨j, y⟩ := q
      rw [hg] at ih
      by_cases h : y = x
      · subst h
        rw [join1_same]
        simp at ih ⊢
        omega
      · rw [join1_other h]
        simp at ih ⊢
        omega
theorem len_encR (g : List (Nat × Int)) : (g.flatMap encR).length ≤ 18 * g.length := by
  induction g with
  | nil => simp
  | cons p g ih =>
    have h1 := Ty.encU_len9 p.1
    have h2 := len_encI p.2
    simp only [List.flatMap_cons, List.length_append, List.length_cons, encR]
    omega
theorem len_runs (L : List Int) : ((grp L).flatMap encR).length ≤ 18 * L.length := by
  have h1 := len_encR (grp L)
  have h2 := len_grp L
  omega
end Go.Proofs.YtkgmildbhelelaaDoor.Ig
