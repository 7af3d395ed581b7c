/-
  Contracts of package kinds: Fits and Key.
-/
import Derived.Test.YtdjnjhlcdcmeaaaK4
namespace Go.Proofs.Ytdjnjhlcdcmeaaa
open Go.RowKit
/-- Every value fits its column. -/
def Kn.fitsAll : List Kn.C → List Kn.V → Bool
  | c :: cs, v :: vs => Kn.fits c v && Kn.fitsAll cs vs
  | _, _ => true
/-- The error of a row. -/
def Kn.fitsE (s : List Kn.C) (r : List Kn.V) : Int := if Kn.right s = true then (if r.length = s.length then (if Kn.fitsAll s r = true then 0 else 6) else 7) else 4
/-- The error of a key. -/
def Kn.keyE (s : List Kn.C) (k : Kn.V) : Int := if Kn.right s = true then (match s with | [] => 4 | c :: _ => if Kn.fits c k = true then 0 else 6) else 4
theorem Kn.fitsAll_step (s : List Kn.C) (r : List Kn.V) (k : Nat) (c : Kn.C) (v : Kn.V) (hc : s[k]? = some c) (hv : r[k]? = some v) : Kn.fitsAll (s.drop k) (r.drop k) = (Kn.fits c v && Kn.fitsAll (s.drop (k + 1)) (r.drop (k + 1))) := by
  obtain ⟨h1, rfl⟩ := List.getElem?_eq_some_iff.1 hc
  obtain ⟨h2, rfl⟩ := List.getElem?_eq_some_iff.1 hv
  rw [List.drop_eq_getElem_cons h1, List.drop_eq_getElem_cons h2]
  rfl
theorem Kn.fitsAll_end (s : List Kn.C) (r : List Kn.V) (k : Nat) (h : ¬ k < s.length) : Kn.fitsAll (s.drop k) (r.drop k) = true := by
  rw [List.drop_eq_nil_of_le (by omega)]
  rfl
theorem Kn.fitsE_bad {s : List Kn.C} {r : List Kn.V} (h : Kn.right s = false) : Kn.fitsE s r = 4 := by unfold Kn.fitsE; rw [h]; rfl
theorem Kn.fitsE_len {s : List Kn.C} {r : List Kn.V} (h : Kn.right s = true) (hn : r.length ≠ s.length) : Kn.fitsE s r = 7 := by unfold Kn.fitsE; rw [h, if_pos rfl, if_neg hn]
theorem Kn.fitsE_kind {s : List Kn.C} {r : List Kn.V} (h : Kn.right s = true) (hn : r.length = s.length) (hf : Kn.fitsAll s r = false) : Kn.fitsE s r = 6 := by unfold Kn.fitsE; rw [h, if_pos rfl, if_pos hn, hf]; rfl
theorem Kn.fitsE_ok {s : List Kn.C} {r : List Kn.V} (h : Kn.right s = true) (hn : r.length = s.length) (hf : Kn.fitsAll s r = true) : Kn.fitsE s r = 0 := by unfold Kn.fitsE; rw [h, if_pos rfl, if_pos hn, hf]; rfl
theorem Kn.right_len {s : List Kn.C} (h : Kn.right s = true) : 1 ≤ s.length ∧ s.length ≤ 6 := by
  unfold Kn.right at h
  simp only [Bool.and_eq_true, decide_eq_true_iff] at h
  omega
theorem Kn.right_head {s : List Kn.C} (h : Kn.right s = true) : ∃ x t, s = x :: t ∧ x.null = false ∧ x.good = true := by
  cases s with
  | nil => cases h
  | cons x t =>
    unfold Kn.right at h
    simp only [Bool.and_eq_true, Kn.headOk, List.all_cons, Bool.not_eq_true'] at h
    exact ⟨x, t, rfl, h.1.2, h.2.1⟩
end Go.Proofs.Ytdjnjhlcdcmeaaa
