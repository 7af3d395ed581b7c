/-
  Contracts of package tally: 'number' and 'text', whole.
-/
import Derived.Test.YtehnibknngejnaaDoorW4
namespace Go.Proofs.YtehnibknngejnaaDoor
open Go.RowKit
set_option maxHeartbeats 400000 in
theorem Ty.number_c (s : ByteArray) (w : World) (h : Ty.Tabs w) (hs : s.size ≤ 9223372036854775807) :
    Calls Tryd.prog 48 #[.string s] w fun e w' => e = .returned (Ty.numV s.data.toList) ∧ w' = w := by
  by_cases h0 : 0 < s.size
  · by_cases h1 : (s[0].toNat : Int) ≤ 192
    · have hf : (s[0].toNat : Int) / 64 = 0 ∨ (s[0].toNat : Int) / 64 = 1 ∨ (s[0].toNat : Int) / 64 = 2 ∨ (s[0].toNat : Int) / 64 = 3 := by omega
      rcases hf with hf | hf | hf | hf
      · exact Ty.number_0 s w h hs h0 h1 hf
      · exact Ty.number_1 s w h hs h0 h1 hf
      · exact Ty.number_2 s w h hs h0 h1 hf
      · exact Ty.number_3 s w h hs h0 h1 hf
    · have hne : s.toList.isEmpty = false := Ty.isEmpty_pos s h0
      have HN := Lib.hid (Ty.num_high (l := s.data.toList) (by rw [Ty.length_data]; exact h0) (by rw [← Ty.at_getD s 0 h0]; omega))
      go_enter Tryd.func48, Tryd.ntmps48
      go_wp2
      go_ret3
      exact ⟨by unfold Ty.numV; rw [HN.out]; rfl, rfl⟩
  · have hz : s.size = 0 := by omega
    have he : s.toList.isEmpty = true := by rw [ByteArray.toList_eq, Ty.isEmpty_zero s hz]; rfl
    have HN := Lib.hid (Ty.isEmpty_zero s hz)
    clear h0 hz
    go_enter Tryd.func48, Tryd.ntmps48
    go_wp2
    go_ret3
    exact ⟨by rw [HN.out]; rfl, rfl⟩
/-- A list of bytes as a string. -/
def Ty.S (l : List UInt8) : ByteArray := ⟨l.toArray⟩
theorem Ty.S_data (s : ByteArray) : Ty.S s.data.toList = s := rfl
theorem Ty.data_S (l : List UInt8) : (Ty.S l).data.toList = l := rfl
theorem Ty.size_S (l : List UInt8) : (Ty.S l).size = l.length := rfl
theorem Ty.extract_S (s : ByteArray) (a b : Nat) : s.extract a b = Ty.S ((s.data.toList.drop a).take (b - a)) := ByteArray.extract_mk s.data.toList a b
/-- What 'text' returns. -/
def Ty.txtV (l : List UInt8) (most : Int) : Value := .tuple #[.string (Ty.S (Ty.txt l most).1), .int .i64 (Ty.txt l most).2.1, .int .i64 (Ty.txt l most).2.2]
theorem Ty.number_is (s : ByteArray) (w : World) (h : Ty.Tabs w) (hs : s.size ≤ 9223372036854775807) {n sz : Nat} (hn : Ty.num s.data.toList = (n, sz, 0)) :
    Calls Tryd.prog 48 #[.string s] w fun e w' => e = .returned (.tuple #[.int .u64 n, .int .i64 sz, .int .i64 0]) ∧ w' = w := by
  have := Ty.number_c s w h hs
  unfold Ty.numV at this
  rw [hn] at this
  exact this
end Go.Proofs.YtehnibknngejnaaDoor
