/-
  Contracts of the document's answers for kinds: rows and keys.
-/
import Derived.Test.YtdjnjhlcdcmeaaaK6
namespace Go.Proofs.Ytdjnjhlcdcmeaaa
open Go.RowKit
theorem Kn.right_all {s : List Kn.C} (h : Kn.right s = true) : s.all Kn.C.good = true := by
  unfold Kn.right at h
  simp only [Bool.and_eq_true] at h
  exact h.2
/-- What the document's test of a value comes to, way by way. -/
theorem Kn.test_ways (c : Kn.C) (v : Kn.V) (h : c.good = true) : (Kn.isK c.k v = false ∧ Kn.fits c v = false) ∨ (Kn.isK c.k v = true ∧ v.null = false ∧ Kn.fits c v = true) ∨ (Kn.isK c.k v = true ∧ v.null = true ∧ c.null = true ∧ Kn.fits c v = true) ∨ (Kn.isK c.k v = true ∧ v.null = true ∧ c.null = false ∧ Kn.fits c v = false) := by
  have := Kn.isK_fits c v h
  rw [this]
  cases Kn.isK c.k v <;> cases v.null <;> cases c.null <;> simp
end Go.Proofs.Ytdjnjhlcdcmeaaa
