/-
  Contracts of package ints: the reader of runs.
-/
import Derived.Test.YtkgmildbhelelaaDoorI10
namespace Go.Proofs.YtkgmildbhelelaaDoor
open Go.RowKit
open Ig (nth encI encR grp diffs prv low off sg rest rdInts acc rdRuns spread)
open Ty (encU num)
/-- Runs of m numbers in all, with fuel enough. -/
def Ig.rr (m : Nat) (p : Option Int) (l : List UInt8) : Nat × List (Nat × Int) × List UInt8 := rdRuns m m p l
theorem Ig.fuel : ∀ (f g m : Nat) (p : Option Int) (l : List UInt8), m ≤ f → m ≤ g → rdRuns f m p l = rdRuns g m p l
  | f, g, 0, p, l, _, _ => by rw [Ig.rdRuns_zero, Ig.rdRuns_zero]
  | 0, _, m + 1, _, _, h, _ => by omega
  | _, 0, m + 1, _, _, _, h => by omega
  | f + 1, g + 1, m + 1, p, l, h1, h2 => by
    simp only [rdRuns]
    split
    · rfl
    · split
      · rfl
      · split
        · rfl
        · split
          · rfl
          · rename_i a b c d
            rw [Ig.fuel f g (m + 1 - (num l).1) (some (sg (rest l))) (rest (rest l)) (by omega) (by omega)]
theorem Ig.rr_zero (p : Option Int) (l : List UInt8) : Ig.rr 0 p l = (0, [], l) := Ig.rdRuns_zero _ _ _
theorem Ig.rr_step (m : Nat) (hm : 0 < m) (p : Option Int) (l : List UInt8) : Ig.rr m p l =
    if (num l).2.2 ≠ 0 then ((num l).2.2, [], l)
    else if (num l).1 = 0 ∨ m < (num l).1 then (4, [], l)
    else if (num (rest l)).2.2 ≠ 0 then ((num (rest l)).2.2, [], l)
    else if p = some (sg (rest l)) then (4, [], l)
    else ((Ig.rr (m - (num l).1) (some (sg (rest l))) (rest (rest l))).1, ((num l).1, sg (rest l)) :: (Ig.rr (m - (num l).1) (some (sg (rest l))) (rest (rest l))).2.1, (Ig.rr (m - (num l).1) (some (sg (rest l))) (rest (rest l))).2.2) := by
  obtain ⟨j, rfl⟩ : ∃ j, m = j + 1 := ⟨m - 1, by omega⟩
  unfold Ig.rr
  conv => lhs; simp only [rdRuns]
  split
  · rfl
  · split
    · rfl
    · split
      · rfl
      · split
        · rfl
        · rename_i a b c d
          rw [Ig.fuel j (j + 1 - (num l).1) (j + 1 - (num l).1) (some (sg (rest l))) (rest (rest l)) (by omega) (by omega)]
/-- What the reader of runs leaves. -/
def Ig.rdR (n : Nat) (l : List UInt8) : Nat × List Int × List UInt8 := ((Ig.rr n none l).1, spread (Ig.rr n none l).2.1, (Ig.rr n none l).2.2)
/-- So far M is read. -/
def Ig.MidR (n : Nat) (l : List UInt8) (M : List Int) (l2 : List UInt8) : Prop := M.length ≤ n ∧ l2.length ≤ l.length ∧
  Ig.rdR n l = ((Ig.rr (n - M.length) M.getLast? l2).1, M ++ spread (Ig.rr (n - M.length) M.getLast? l2).2.1, (Ig.rr (n - M.length) M.getLast? l2).2.2)
theorem Ig.MidR.start (n : Nat) (l : List UInt8) : Ig.MidR n l [] l := ⟨by simp, Nat.le_refl _, by simp [Ig.rdR]⟩
theorem Ig.MidR.done {n : Nat} {l : List UInt8} {M : List Int} {l2 : List UInt8} (h : Ig.MidR n l M l2) (hn : n ≤ M.length) : Ig.rdR n l = (0, M, l2) := by
  obtain ⟨h1, h2, h3⟩ := h
  rw [h3, show n - M.length = 0 by omega, Ig.rr_zero]
  simp [spread]
theorem Ig.MidR.bad1 {n : Nat} {l : List UInt8} {M : List Int} {l2 : List UInt8} (h : Ig.MidR n l M l2) (hn : M.length < n) (h1 : (num l2).2.2 ≠ 0) : (Ig.rdR n l).1 = (num l2).2.2 := by
  obtain ⟨_, _, h3⟩ := h
  rw [h3, Ig.rr_step _ (by omega), if_pos h1]
theorem Ig.MidR.bad2 {n : Nat} {l : List UInt8} {M : List Int} {l2 : List UInt8} (h : Ig.MidR n l M l2) (hn : M.length < n) (h1 : (num l2).2.2 = 0) (h2 : (num l2).1 = 0 ∨ n - M.length < (num l2).1) : (Ig.rdR n l).1 = 4 := by
  obtain ⟨_, _, h3⟩ := h
  rw [h3, Ig.rr_step _ (by omega), if_neg (by rw [h1]; simp), if_pos h2]
theorem Ig.MidR.bad3 {n : Nat} {l : List UInt8} {M : List Int} {l2 : List UInt8} (h : Ig.MidR n l M l2) (hn : M.length < n) (h1 : (num l2).2.2 = 0) (h2 : ¬ ((num l2).1 = 0 ∨ n - M.length < (num l2).1)) (h4 : (num (rest l2)).2.2 ≠ 0) : (Ig.rdR n l).1 = (num (rest l2)).2.2 := by
  obtain ⟨_, _, h3⟩ := h
  rw [h3, Ig.rr_step _ (by omega), if_neg (by rw [h1]; simp), if_neg h2, if_pos h4]
theorem Ig.MidR.bad4 {n : Nat} {l : List UInt8} {M : List Int} {l2 : List UInt8} (h : Ig.MidR n l M l2) (hn : M.length < n) (h1 : (num l2).2.2 = 0) (h2 : ¬ ((num l2).1 = 0 ∨ n - M.length < (num l2).1)) (h4 : (num (rest l2)).2.2 = 0) (h5 : M.getLast? = some (sg (rest l2))) : (Ig.rdR n l).1 = 4 := by
  obtain ⟨_, _, h3⟩ := h
  rw [h3, Ig.rr_step _ (by omega), if_neg (by rw [h1]; simp), if_neg h2, if_neg (by rw [h4]; simp), if_pos h5]
theorem Ig.MidR.next {n : Nat} {l : List UInt8} {M : List Int} {l2 : List UInt8} (h : Ig.MidR n l M l2) (hn : M.length < n) (h1 : (num l2).2.2 = 0) (h2 : ¬ ((num l2).1 = 0 ∨ n - M.length < (num l2).1)) (h4 : (num (rest l2)).2.2 = 0) (h5 : ¬ M.getLast? = some (sg (rest l2))) :
    Ig.MidR n l (M ++ List.replicate (num l2).1 (sg (rest l2))) (rest (rest l2)) := by
  obtain ⟨_, hl, h3⟩ := h
  have e1 : (M ++ List.replicate (num l2).1 (sg (rest l2))).getLast? = some (sg (rest l2)) := by
    obtain ⟨j, hj⟩ : ∃ j, (num l2).1 = j + 1 := ⟨(num l2).1 - 1, by omega⟩
    rw [hj, List.replicate_succ', ← List.append_assoc, List.getLast?_append]
    simp
  have e2 : n - (M ++ List.replicate (num l2).1 (sg (rest l2))).length = n - M.length - (num l2).1 := by simp; omega
  refine ⟨by simp; omega, Nat.le_trans (Nat.le_trans (Ig.rest_le _) (Ig.rest_le _)) hl, ?_⟩
  rw [e1, e2, h3, Ig.rr_step (n - M.length) (by omega), if_neg (by rw [h1]; simp), if_neg h2, if_neg (by rw [h4]; simp), if_neg h5]
  simp [spread]
theorem Ig.last_nth {M : List Int} {q : Nat} (h : M.length = q + 1) : M.getLast? = some (nth M q) := by
  rw [List.getLast?_eq_getElem?, h, Ig.nth_get (by omega), List.getElem?_eq_getElem (by omega)]
  simp
theorem Ig.last_nil : ([] : List Int).getLast? = none := rfl
end Go.Proofs.YtkgmildbhelelaaDoor
