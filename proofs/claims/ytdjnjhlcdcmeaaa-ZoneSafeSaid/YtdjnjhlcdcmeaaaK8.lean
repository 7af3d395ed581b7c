/-
  Contracts of package kinds: rows that are the same; keys in a range. The document's answers for these.
-/
import Derived.Test.YtdjnjhlcdcmeaaaK7
namespace Go.Proofs.Ytdjnjhlcdcmeaaa
open Go.RowKit
/-- Two values are equal in every field. -/
def Kn.sameV (a b : Kn.V) : Bool := (a.null == b.null) && ((a.n == b.n) && (a.s.toList == b.s.toList))
/-- Two rows are the same. -/
def Kn.sameR : List Kn.V → List Kn.V → Bool
  | a :: l, b :: m => Kn.sameV a b && Kn.sameR l m
  | [], [] => true
  | _, _ => false
theorem Kn.sameR_self : ∀ l : List Kn.V, Kn.sameR l l = true
  | [] => rfl
  | a :: l => by simp [Kn.sameR, Kn.sameV, Kn.sameR_self l]
theorem Kn.sameR_len : ∀ a b : List Kn.V, a.length ≠ b.length → Kn.sameR a b = false
  | [], [], h => absurd rfl h
  | [], _ :: _, _ => rfl
  | _ :: _, [], _ => rfl
  | a :: l, b :: m, h => by
    simp only [Kn.sameR]
    rw [Kn.sameR_len l m (by simpa using h)]
    simp
theorem Kn.sameR_step (s r : List Kn.V) (k : Nat) (c v : Kn.V) (hc : s[k]? = some c) (hv : r[k]? = some v) : Kn.sameR (s.drop k) (r.drop k) = (Kn.sameV c v && Kn.sameR (s.drop (k + 1)) (r.drop (k + 1))) := by
  obtain ⟨h1, rfl⟩ := List.getElem?_eq_some_iff.1 hc
  obtain ⟨h2, rfl⟩ := List.getElem?_eq_some_iff.1 hv
  rw [List.drop_eq_getElem_cons h1, List.drop_eq_getElem_cons h2]
  rfl
theorem Kn.sameR_end (s r : List Kn.V) (k : Nat) (h : ¬ k < s.length) (h2 : r.length = s.length) : Kn.sameR (s.drop k) (r.drop k) = true := by
  rw [List.drop_eq_nil_of_le (by omega), List.drop_eq_nil_of_le (by omega)]
  rfl
theorem Kn.sameV_ways (a b : Kn.V) : (Kn.sameV a b = false ∧ (a.null == b.null) = false) ∨ (Kn.sameV a b = false ∧ (a.null == b.null) = true ∧ (a.n == b.n) = false) ∨ (Kn.sameV a b = false ∧ (a.null == b.null) = true ∧ (a.n == b.n) = true ∧ (a.s.toList == b.s.toList) = false) ∨ (Kn.sameV a b = true ∧ (a.null == b.null) = true ∧ (a.n == b.n) = true ∧ (a.s.toList == b.s.toList) = true) := by
  unfold Kn.sameV
  cases (a.null == b.null) <;> cases (a.n == b.n) <;> cases (a.s.toList == b.s.toList) <;> simp
/-- The test of the two values, as the program makes it. -/
theorem Kn.neq_run (a b : Kn.V) (w : World) : (binOp .neq 23 (.agg #[.bool a.null, .int .i64 a.n, .string a.s]) (.agg #[.bool b.null, .int .i64 b.n, .string b.s])).run Try.prog w = .ok (.bool (!Kn.sameV a b)) w := by
  rcases Kn.sameV_ways a b with ⟨h, h1⟩ | ⟨h, h1, h2⟩ | ⟨h, h1, h2, h3⟩ | ⟨h, h1, h2, h3⟩
  all_goals
    rw [h]
    clear h
    go_simp
    done
end Go.Proofs.Ytdjnjhlcdcmeaaa
