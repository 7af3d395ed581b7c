/-
  Contracts of package tally: what is read at the beginning of a string.
-/
import Derived.Test.YtdjnjhlcdcmeaaaW3
import Derived.Test.YtdjnjhlcdcmeaaaM2
namespace Go.Proofs.Ytdjnjhlcdcmeaaa
open Go.RowKit
theorem Ty.length_data (s : ByteArray) : s.data.toList.length = s.size := by rw [Array.length_toList]; rfl
theorem Ty.at_getD (s : ByteArray) (k : Nat) (h : k < s.size) : s[k] = s.data.toList.getD k 0 := by
  have h2 : k < s.data.toList.length := by rw [Ty.length_data]; exact h
  rw [List.getD, List.getElem?_eq_getElem h2]; rfl
theorem Ty.isEmpty_pos (s : ByteArray) (h : 0 < s.size) : s.toList.isEmpty = false := by
  rw [ByteArray.toList_eq, List.isEmpty_eq_false_iff]
  intro e
  have := Ty.length_data s
  rw [e] at this
  simp at this
  omega
theorem Ty.isEmpty_zero (s : ByteArray) (h : s.size = 0) : s.data.toList = [] := List.eq_nil_of_length_eq_zero (by rw [Ty.length_data]; exact h)
/-- What 'number' returns. -/
def Ty.numV (l : List UInt8) : Value := .tuple #[.int .u64 (Ty.num l).1, .int .i64 (Ty.num l).2.1, .int .i64 (Ty.num l).2.2]

end Go.Proofs.Ytdjnjhlcdcmeaaa
