/-
  Contracts of package tally: 'number' and 'text', whole.
-/
import Derived.Test.YtdjnjhlcdcmeaaaW4
namespace Go.Proofs.Ytdjnjhlcdcmeaaa
open Go.RowKit
/-- A list of bytes as a string. -/
def Ty.S (l : List UInt8) : ByteArray := ⟨l.toArray⟩
theorem Ty.S_data (s : ByteArray) : Ty.S s.data.toList = s := rfl
theorem Ty.data_S (l : List UInt8) : (Ty.S l).data.toList = l := rfl
theorem Ty.size_S (l : List UInt8) : (Ty.S l).size = l.length := rfl
theorem Ty.extract_S (s : ByteArray) (a b : Nat) : s.extract a b = Ty.S ((s.data.toList.drop a).take (b - a)) := ByteArray.extract_mk s.data.toList a b
/-- What 'text' returns. -/
def Ty.txtV (l : List UInt8) (most : Int) : Value := .tuple #[.string (Ty.S (Ty.txt l most).1), .int .i64 (Ty.txt l most).2.1, .int .i64 (Ty.txt l most).2.2]
end Go.Proofs.Ytdjnjhlcdcmeaaa
