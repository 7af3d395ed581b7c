/-
  Contracts of package tally: 'number' and 'text', whole.
-/
import Derived.Test.YtccjfmjgkkpndaaDoorW4
namespace Go.Proofs.YtccjfmjgkkpndaaDoor
open Go.RowKit
set_option maxHeartbeats 400000 in
theorem Ty.number_c (s : ByteArray) (w : World) (h : Ty.Tabs w) (hs : s.size ≤ 9223372036854775807) :
    Calls Tryd.prog 70 #[.string s] w fun e w' => e = .returned (Ty.numV s.data.toList) ∧ w' = w := by
  by_cases h0 : 0 < s.size
  · by_cases h1 : (s[0].toNat : Int) ≤ 192
    · have hf : (s[0].toNat : Int) / 64 = 0 ∨ (s[0].toNat : Int) / 64 = 1 ∨ (s[0].toNat : Int) / 64 = 2 ∨ (s[0].toNat : Int) / 64 = 3 := by omega
      rcases hf with hf | hf | hf | hf
      · exact Ty.number_0 s w h hs h0 h1 hf
      · exact Ty.number_1 s w h hs h0 h1 hf
      · exact Ty.number_2 s w h hs h0 h1 hf
      · exact Ty.number_3 s w h hs h0 h1 hf
    · have hne : s.toList.isEmpty = false := Ty.isEmpty_pos s h0
      have HN := Lib.hid (Ty.num_high (l := s.data.toList) (by rw [Ty.length_data]; exact h0) (by rw [← Ty.at_getD s 0 h0]; omega))
      go_enter Tryd.func70, Tryd.ntmps70
      go_wp2
      go_ret3
      exact ⟨by unfold Ty.numV; rw [HN.out]; rfl, rfl⟩
  · have hz : s.size = 0 := by omega
    have he : s.toList.isEmpty = true := by rw [ByteArray.toList_eq, Ty.isEmpty_zero s hz]; rfl
    have HN := Lib.hid (Ty.isEmpty_zero s hz)
    clear h0 hz
    go_enter Tryd.func70, Tryd.ntmps70
    go_wp2
    go_ret3
    exact ⟨by rw [HN.out]; rfl, rfl⟩
/-- A list of bytes as a string. -/
def Ty.S (l : List UInt8) : ByteArray := ⟨l.toArray⟩
theorem Ty.S_data (s : ByteArray) : Ty.S s.data.toList = s := rfl
theorem Ty.data_S (l : List UInt8) : (Ty.S l).data.toList = l := rfl
theorem Ty.size_S (l : List UInt8) : (Ty.S l).size = l.length := rfl
theorem Ty.extract_S (s : ByteArray) (a b : Nat) : s.extract a b = Ty.S ((s.data.toList.drop a).take (b - a)) := ByteArray.extract_mk s.data.toList a b
/-- What 'text' returns. -/
def Ty.txtV (l : List UInt8) (most : Int) : Value := .tuple #[.string (Ty.S (Ty.txt l most).1), .int .i64 (Ty.txt l most).2.1, .int .i64 (Ty.txt l most).2.2]
set_option maxHeartbeats 400000 in
theorem Ty.text_bad (s : ByteArray) (most : Int) (w : World) (h : Ty.Tabs w) (hs : s.size ≤ 9223372036854775807) (he : (Ty.num s.data.toList).2.2 ≠ 0) :
    Calls Tryd.prog 66 #[.string s, .int .i64 most] w fun e w' => e = .returned (Ty.txtV s.data.toList most) ∧ w' = w := by
  have HT := Lib.hid (Ty.txt_bad (most := most) he)
  have hb : (((Ty.num s.data.toList).2.2 : Int) != 0) = true := by rw [bne_iff_ne]; omega
  clear he
  go_enter Tryd.func66, Tryd.ntmps66
  go_wp2_with fail
  refine (Ty.number_c s _ h hs).mono ?_
  rintro e w' ⟨rfl, rfl⟩
  unfold Ty.numV
  go_wp2
  go_ret3
  exact ⟨by unfold Ty.txtV; rw [HT.out]; rfl, rfl⟩
theorem Ty.number_is (s : ByteArray) (w : World) (h : Ty.Tabs w) (hs : s.size ≤ 9223372036854775807) {n sz : Nat} (hn : Ty.num s.data.toList = (n, sz, 0)) :
    Calls Tryd.prog 70 #[.string s] w fun e w' => e = .returned (.tuple #[.int .u64 n, .int .i64 sz, .int .i64 0]) ∧ w' = w := by
  have := Ty.number_c s w h hs
  unfold Ty.numV at this
  rw [hn] at this
  exact this
set_option maxHeartbeats 400000 in
theorem Ty.text_good (s : ByteArray) (most : Int) (w : World) (h : Ty.Tabs w) (hs : s.size ≤ 9223372036854775807) (hm : -9223372036854775808 ≤ most ∧ most ≤ 9223372036854775807) {n sz : Nat} (hn : Ty.num s.data.toList = (n, sz, 0)) :
    Calls Tryd.prog 66 #[.string s, .int .i64 most] w fun e w' => e = .returned (Ty.txtV s.data.toList most) ∧ w' = w := by
  have hsz : sz ≤ s.size := by have := Ty.num_size s.data.toList; rw [hn, Ty.length_data] at this; exact this
  have HN := Lib.hid hn
  have e1 : (Ty.num s.data.toList).1 = n := by rw [hn]
  have e2 : (Ty.num s.data.toList).2.1 = sz := by rw [hn]
  have e3 : (Ty.num s.data.toList).2.2 = 0 := by rw [hn]
  obtain ⟨hm1, hm2⟩ := hm
  clear hn
  by_cases h1 : most < 0
  · have HT := Lib.hid (Ty.txt_long e3 (.inl h1))
    clear e1 e2 e3
    go_enter Tryd.func66, Tryd.ntmps66
    go_wp2_with fail
    refine (Ty.number_is s _ h hs HN.out).mono ?_
    rintro e w' ⟨rfl, rfl⟩
    go_wp2
    go_ret3
    exact ⟨by unfold Ty.txtV; rw [HT.out]; rfl, rfl⟩
  · by_cases h2 : most < (n : Int)
    · have HT := Lib.hid (Ty.txt_long e3 (.inr (by rw [e1]; exact h2)))
      clear e1 e2 e3
      go_enter Tryd.func66, Tryd.ntmps66
      go_wp2_with fail
      refine (Ty.number_is s _ h hs HN.out).mono ?_
      rintro e w' ⟨rfl, rfl⟩
      go_wp2
      go_ret3
      exact ⟨by unfold Ty.txtV; rw [HT.out]; rfl, rfl⟩
    · by_cases h3 : (s.size : Int) - (sz : Int) < (n : Int)
      · have HT := Lib.hid (Ty.txt_short e3 (most := most) (by rw [e1]; omega) (by rw [e1, e2, Ty.length_data]; omega))
        clear e1 e2 e3
        go_enter Tryd.func66, Tryd.ntmps66
        go_wp2_with fail
        refine (Ty.number_is s _ h hs HN.out).mono ?_
        rintro e w' ⟨rfl, rfl⟩
        go_wp2
        go_ret3
        exact ⟨by unfold Ty.txtV; rw [HT.out]; rfl, rfl⟩
      · have HT := Lib.hid (Ty.txt_whole e3 (most := most) (by rw [e1]; omega) (by rw [e1, e2, Ty.length_data]; omega))
        have E1 := Lib.hid e1
        have E2 := Lib.hid e2
        clear e1 e2 e3
        have hns : n ≤ s.size := by omega
        have hes : sz + n ≤ s.size := by omega
        go_enter Tryd.func66, Tryd.ntmps66
        go_wp2_with fail
        refine (Ty.number_is s _ h hs HN.out).mono ?_
        rintro e w' ⟨rfl, rfl⟩
        go_wp2
        go_ret3
        refine ⟨?_, rfl⟩
        unfold Ty.txtV
        rw [HT.out]
        simp only [E1.out, E2.out, Ty.extract_S, Nat.add_sub_cancel_left, Int.natCast_add]
        rfl
/-- 'text', whatever comes in. -/
theorem Ty.text_r (s : ByteArray) (most : Int) (w : World) (h : Ty.Tabs w) (hs : s.size ≤ 9223372036854775807) (hm : -9223372036854775808 ≤ most ∧ most ≤ 9223372036854775807) :
    Calls Tryd.prog 66 #[.string s, .int .i64 most] w fun e w' => e = .returned (Ty.txtV s.data.toList most) ∧ w' = w := by
  by_cases he : (Ty.num s.data.toList).2.2 = 0
  · exact Ty.text_good s most w h hs hm (n := (Ty.num s.data.toList).1) (sz := (Ty.num s.data.toList).2.1) (by rw [← he])
  · exact Ty.text_bad s most w h hs he
end Go.Proofs.YtccjfmjgkkpndaaDoor
