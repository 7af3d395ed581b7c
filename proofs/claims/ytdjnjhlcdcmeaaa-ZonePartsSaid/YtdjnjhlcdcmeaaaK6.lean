/-
  Contracts of the document's answers for kinds: which schemas, rows and keys may be.
-/
import Derived.Test.YtdjnjhlcdcmeaaaK5
namespace Go.Proofs.Ytdjnjhlcdcmeaaa
open Go.RowKit
/-- Is a value of a kind? -/
def Kn.isK (k : Int) (v : Kn.V) : Bool :=
  if v.null = true then (v.n == 0) && (v.s.toList == (⟨#[]⟩ : ByteArray).toList)
  else if k = 1 then v.s.toList == (⟨#[]⟩ : ByteArray).toList
  else (k == 2) && ((v.n == 0) && decide (v.s.size ≤ 64))
/-- The document's test of a value against its column, of a kind that may be. -/
theorem Kn.isK_fits (c : Kn.C) (v : Kn.V) (h : c.good = true) : Kn.fits c v = (Kn.isK c.k v && !(v.null && !c.null)) := by
  obtain ⟨ck, cn⟩ := c
  obtain ⟨vn, vi, vs⟩ := v
  have hk : ck = 1 ∨ ck = 2 := by
    unfold Kn.C.good at h
    by_cases h1 : ck = 1
    · exact .inl h1
    · by_cases h2 : ck = 2
      · exact .inr h2
      · have e1 : (ck != 1) = true := by rw [bne_iff_ne]; exact h1
        have e2 : (ck != 2) = true := by rw [bne_iff_ne]; exact h2
        simp only [e1, e2] at h
        cases h
  unfold Kn.fits Kn.isK
  rcases hk with rfl | rfl <;> cases vn <;> cases cn <;> simp
theorem Kn.right_ends (l : List Kn.C) (ha : (l.take l.length).all Kn.C.good = true) (hh : 0 < l.length → Kn.headOk l = true) : (¬ 1 ≤ l.length → Kn.right l = false) ∧ (1 ≤ l.length → ¬ l.length ≤ 6 → Kn.right l = false) ∧ (1 ≤ l.length → l.length ≤ 6 → Kn.right l = true) := by
  rw [List.take_length] at ha
  unfold Kn.right
  rw [ha]
  refine ⟨fun h => ?_, fun _ h => ?_, fun h1 h2 => ?_⟩
  · rw [decide_eq_false h]; rfl
  · rw [decide_eq_false (p := l.length ≤ 6) h]; simp
  · rw [hh (by omega), decide_eq_true h1, decide_eq_true h2]; rfl
theorem Kn.head_ok (l : List Kn.C) (x : Kn.C) (h : l[0]? = some x) : Kn.headOk l = !x.null := by
  cases l with
  | nil => cases h
  | cons y t => obtain rfl : y = x := by simpa using h
                rfl
end Go.Proofs.Ytdjnjhlcdcmeaaa
