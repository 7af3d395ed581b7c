/-
  Contracts of package tally: what is read at the beginning of a string.
-/
import Derived.Test.YtccjfmjgkkpndaaDoorW3
import Derived.Test.YtccjfmjgkkpndaaDoorM2
namespace Go.Proofs.YtccjfmjgkkpndaaDoor
open Go.RowKit
theorem Ty.length_data (s : ByteArray) : s.data.toList.length = s.size := by rw [Array.length_toList]; rfl
theorem Ty.at_getD (s : ByteArray) (k : Nat) (h : k < s.size) : s[k] = s.data.toList.getD k 0 := by
  have h2 : k < s.data.toList.length := by rw [Ty.length_data]; exact h
  rw [List.getD, List.getElem?_eq_getElem h2]; rfl
theorem Ty.isEmpty_pos (s : ByteArray) (h : 0 < s.size) : s.toList.isEmpty = false := by
  rw [ByteArray.toList_eq, List.isEmpty_eq_false_iff]
  intro e
  have := Ty.length_data s
  rw [e] at this
  simp at this
  omega
theorem Ty.isEmpty_zero (s : ByteArray) (h : s.size = 0) : s.data.toList = [] := List.eq_nil_of_length_eq_zero (by rw [Ty.length_data]; exact h)
/-- What 'number' returns. -/
def Ty.numV (l : List UInt8) : Value := .tuple #[.int .u64 (Ty.num l).1, .int .i64 (Ty.num l).2.1, .int .i64 (Ty.num l).2.2]

set_option maxHeartbeats 1000000 in
theorem Ty.number_0 (s : ByteArray) (w : World) (h : Ty.Tabs w) (hs : s.size ≤ 9223372036854775807) (h0 : 0 < s.size) (h1 : (s[0].toNat : Int) ≤ 192) (h2 : (s[0].toNat : Int) / 64 = 0) :
    Calls Tryd.prog 70 #[.string s] w fun e w' => e = .returned (Ty.numV s.data.toList) ∧ w' = w := by
  obtain ⟨z0, z1, z2, z3, s0, s1, s2, s3, _⟩ := h
  have hne : s.toList.isEmpty = false := Ty.isEmpty_pos s h0
  have hll : s.data.toList.length = s.size := Ty.length_data s
  have e0 := Ty.at_getD s 0 h0
  have H0 : Hid (0 < s.data.toList.length) := Lib.hid (by omega)
  have Hb : Hid (¬ 192 < (s.data.toList.getD 0 0).toNat) := Lib.hid (by rw [← e0]; omega)
  have Hf : Hid ((s.data.toList.getD 0 0).toNat / 64 = 0) := Lib.hid (by rw [← e0]; omega)
  have Hl : Hid (¬ s.data.toList.length < 1 + Ty.after 0) := Lib.hid (by rw [hll]; show ¬ s.size < 1 + 0; omega)
  have E0 := Lib.hid e0
  clear e0 hll
  have hnz : ¬ ((s[0].toNat : Int) % 64 < 0) := by omega
  have hsz : (1 : Int) ≤ s.size := by omega
  have HN := Lib.hid (Ty.num_whole H0.out Hb.out Hf.out Hl.out (by show ¬ Ty.pv _ 1 < 0; omega))
  go_enter Tryd.func70, Tryd.ntmps70
  go_wp2
  refine wp_loop_rounds 1 ?_; rw [rounds_succ]
  go_wp2
  go_ret3
  exact ⟨by unfold Ty.numV; rw [HN.out]; simp [Ty.pv, Ty.after, E0.out], rfl⟩

set_option maxHeartbeats 1000000 in
theorem Ty.number_1 (s : ByteArray) (w : World) (h : Ty.Tabs w) (hs : s.size ≤ 9223372036854775807) (h0 : 0 < s.size) (h1 : (s[0].toNat : Int) ≤ 192) (h2 : (s[0].toNat : Int) / 64 = 1) :
    Calls Tryd.prog 70 #[.string s] w fun e w' => e = .returned (Ty.numV s.data.toList) ∧ w' = w := by
  obtain ⟨z0, z1, z2, z3, s0, s1, s2, s3, _⟩ := h
  have hne : s.toList.isEmpty = false := Ty.isEmpty_pos s h0
  have hll : s.data.toList.length = s.size := Ty.length_data s
  have e0 := Ty.at_getD s 0 h0
  have H0 : Hid (0 < s.data.toList.length) := Lib.hid (by omega)
  have Hb : Hid (¬ 192 < (s.data.toList.getD 0 0).toNat) := Lib.hid (by rw [← e0]; omega)
  have Hf : Hid ((s.data.toList.getD 0 0).toNat / 64 = 1) := Lib.hid (by rw [← e0]; omega)
  have HL := Lib.hid hll
  have E0 := Lib.hid e0
  clear e0 hll
  by_cases h4 : (2 : Int) ≤ s.size
  · have Hl : Hid (¬ s.data.toList.length < 1 + Ty.after 1) := Lib.hid (by rw [HL.out]; simp [Ty.after]; omega)
    have Hst : Hid (∀ k, 1 ≤ k → k < 2 → Ty.pv s.data.toList k < 72057594037927936) := Lib.hid fun k a b => Ty.pv_small4 _ k a (by omega)
    obtain ⟨PV, HPV⟩ : ∃ f : Nat → Int, Hid (∀ k, f k = (Ty.pv s.data.toList k : Int)) := ⟨fun k => (Ty.pv s.data.toList k : Int), fun _ => rfl⟩
    by_cases h5 : PV 2 < 64
    · have HN := Lib.hid (Ty.num_less H0.out Hb.out Hf.out Hl.out (by show Ty.pv _ 2 < 64; have := HPV.out 2; omega))
      go_enter Tryd.func70, Tryd.ntmps70
      go_wp2
      go_loop [8, 9] (fun n i => ∃ k : Nat, 1 ≤ k ∧ k ≤ 2 ∧ i = .int .i64 k ∧ n = .int .u64 (PV k)) (fun _ i => 2 - (intOf i).toNat)
      case atStart => exact ⟨1, by omega, by omega, rfl, by simp [HPV.out, Ty.pv, E0.out]⟩
      case round =>
        obtain ⟨k, hk1, hk2, rfl, rfl⟩ := hrel
        by_cases hk : k < 2
        · have hks : k < s.size := by omega
          go_wp2
          go_round
          case rel => exact ⟨k + 1, by omega, by omega, by simp, by rw [HPV.out, HPV.out]; exact congrArg (Value.int .u64) (Ty.or_step _ _ k hk1 (Hst.out k hk1 hk) (Ty.at_getD s k hks))⟩
          case measure => simp [intOf]; omega
        · obtain rfl : k = 2 := by omega
          go_wp2
          go_ret3
          exact ⟨by first | (unfold Ty.numV; rw [HN.out, HPV.out]; rfl) | (unfold Ty.numV; rw [HN.out]; rfl), rfl⟩
    · have HN := Lib.hid (Ty.num_whole H0.out Hb.out Hf.out Hl.out (by show ¬ Ty.pv _ 2 < 64; have := HPV.out 2; omega))
      go_enter Tryd.func70, Tryd.ntmps70
      go_wp2
      go_loop [8, 9] (fun n i => ∃ k : Nat, 1 ≤ k ∧ k ≤ 2 ∧ i = .int .i64 k ∧ n = .int .u64 (PV k)) (fun _ i => 2 - (intOf i).toNat)
      case atStart => exact ⟨1, by omega, by omega, rfl, by simp [HPV.out, Ty.pv, E0.out]⟩
      case round =>
        obtain ⟨k, hk1, hk2, rfl, rfl⟩ := hrel
        by_cases hk : k < 2
        · have hks : k < s.size := by omega
          go_wp2
          go_round
          case rel => exact ⟨k + 1, by omega, by omega, by simp, by rw [HPV.out, HPV.out]; exact congrArg (Value.int .u64) (Ty.or_step _ _ k hk1 (Hst.out k hk1 hk) (Ty.at_getD s k hks))⟩
          case measure => simp [intOf]; omega
        · obtain rfl : k = 2 := by omega
          go_wp2
          go_ret3
          exact ⟨by first | (unfold Ty.numV; rw [HN.out, HPV.out]; rfl) | (unfold Ty.numV; rw [HN.out]; rfl), rfl⟩
  · have HN := Lib.hid (Ty.num_cut H0.out Hb.out Hf.out (by rw [HL.out]; simp [Ty.after]; omega))
    go_enter Tryd.func70, Tryd.ntmps70
    go_wp2
    go_ret3
    exact ⟨by first | (unfold Ty.numV; rw [HN.out, HPV.out]; rfl) | (unfold Ty.numV; rw [HN.out]; rfl), rfl⟩

set_option maxHeartbeats 1000000 in
theorem Ty.number_2 (s : ByteArray) (w : World) (h : Ty.Tabs w) (hs : s.size ≤ 9223372036854775807) (h0 : 0 < s.size) (h1 : (s[0].toNat : Int) ≤ 192) (h2 : (s[0].toNat : Int) / 64 = 2) :
    Calls Tryd.prog 70 #[.string s] w fun e w' => e = .returned (Ty.numV s.data.toList) ∧ w' = w := by
  obtain ⟨z0, z1, z2, z3, s0, s1, s2, s3, _⟩ := h
  have hne : s.toList.isEmpty = false := Ty.isEmpty_pos s h0
  have hll : s.data.toList.length = s.size := Ty.length_data s
  have e0 := Ty.at_getD s 0 h0
  have H0 : Hid (0 < s.data.toList.length) := Lib.hid (by omega)
  have Hb : Hid (¬ 192 < (s.data.toList.getD 0 0).toNat) := Lib.hid (by rw [← e0]; omega)
  have Hf : Hid ((s.data.toList.getD 0 0).toNat / 64 = 2) := Lib.hid (by rw [← e0]; omega)
  have HL := Lib.hid hll
  have E0 := Lib.hid e0
  clear e0 hll
  by_cases h4 : (4 : Int) ≤ s.size
  · have Hl : Hid (¬ s.data.toList.length < 1 + Ty.after 2) := Lib.hid (by rw [HL.out]; simp [Ty.after]; omega)
    have Hst : Hid (∀ k, 1 ≤ k → k < 4 → Ty.pv s.data.toList k < 72057594037927936) := Lib.hid fun k a b => Ty.pv_small4 _ k a (by omega)
    obtain ⟨PV, HPV⟩ : ∃ f : Nat → Int, Hid (∀ k, f k = (Ty.pv s.data.toList k : Int)) := ⟨fun k => (Ty.pv s.data.toList k : Int), fun _ => rfl⟩
    by_cases h5 : PV 4 < 16384
    · have HN := Lib.hid (Ty.num_less H0.out Hb.out Hf.out Hl.out (by show Ty.pv _ 4 < 16384; have := HPV.out 4; omega))
      go_enter Tryd.func70, Tryd.ntmps70
      go_wp2
      go_loop [8, 9] (fun n i => ∃ k : Nat, 1 ≤ k ∧ k ≤ 4 ∧ i = .int .i64 k ∧ n = .int .u64 (PV k)) (fun _ i => 4 - (intOf i).toNat)
      case atStart => exact ⟨1, by omega, by omega, rfl, by simp [HPV.out, Ty.pv, E0.out]⟩
      case round =>
        obtain ⟨k, hk1, hk2, rfl, rfl⟩ := hrel
        by_cases hk : k < 4
        · have hks : k < s.size := by omega
          go_wp2
          go_round
          case rel => exact ⟨k + 1, by omega, by omega, by simp, by rw [HPV.out, HPV.out]; exact congrArg (Value.int .u64) (Ty.or_step _ _ k hk1 (Hst.out k hk1 hk) (Ty.at_getD s k hks))⟩
          case measure => simp [intOf]; omega
        · obtain rfl : k = 4 := by omega
          go_wp2
          go_ret3
          exact ⟨by first | (unfold Ty.numV; rw [HN.out, HPV.out]; rfl) | (unfold Ty.numV; rw [HN.out]; rfl), rfl⟩
    · have HN := Lib.hid (Ty.num_whole H0.out Hb.out Hf.out Hl.out (by show ¬ Ty.pv _ 4 < 16384; have := HPV.out 4; omega))
      go_enter Tryd.func70, Tryd.ntmps70
      go_wp2
      go_loop [8, 9] (fun n i => ∃ k : Nat, 1 ≤ k ∧ k ≤ 4 ∧ i = .int .i64 k ∧ n = .int .u64 (PV k)) (fun _ i => 4 - (intOf i).toNat)
      case atStart => exact ⟨1, by omega, by omega, rfl, by simp [HPV.out, Ty.pv, E0.out]⟩
      case round =>
        obtain ⟨k, hk1, hk2, rfl, rfl⟩ := hrel
        by_cases hk : k < 4
        · have hks : k < s.size := by omega
          go_wp2
          go_round
          case rel => exact ⟨k + 1, by omega, by omega, by simp, by rw [HPV.out, HPV.out]; exact congrArg (Value.int .u64) (Ty.or_step _ _ k hk1 (Hst.out k hk1 hk) (Ty.at_getD s k hks))⟩
          case measure => simp [intOf]; omega
        · obtain rfl : k = 4 := by omega
          go_wp2
          go_ret3
          exact ⟨by first | (unfold Ty.numV; rw [HN.out, HPV.out]; rfl) | (unfold Ty.numV; rw [HN.out]; rfl), rfl⟩
  · have HN := Lib.hid (Ty.num_cut H0.out Hb.out Hf.out (by rw [HL.out]; simp [Ty.after]; omega))
    go_enter Tryd.func70, Tryd.ntmps70
    go_wp2
    go_ret3
    exact ⟨by first | (unfold Ty.numV; rw [HN.out, HPV.out]; rfl) | (unfold Ty.numV; rw [HN.out]; rfl), rfl⟩

set_option maxHeartbeats 1000000 in
theorem Ty.number_3 (s : ByteArray) (w : World) (h : Ty.Tabs w) (hs : s.size ≤ 9223372036854775807) (h0 : 0 < s.size) (h1 : (s[0].toNat : Int) ≤ 192) (h2 : (s[0].toNat : Int) / 64 = 3) :
    Calls Tryd.prog 70 #[.string s] w fun e w' => e = .returned (Ty.numV s.data.toList) ∧ w' = w := by
  obtain ⟨z0, z1, z2, z3, s0, s1, s2, s3, _⟩ := h
  have hne : s.toList.isEmpty = false := Ty.isEmpty_pos s h0
  have hll : s.data.toList.length = s.size := Ty.length_data s
  have e0 := Ty.at_getD s 0 h0
  have H0 : Hid (0 < s.data.toList.length) := Lib.hid (by omega)
  have Hb : Hid (¬ 192 < (s.data.toList.getD 0 0).toNat) := Lib.hid (by rw [← e0]; omega)
  have Hf : Hid ((s.data.toList.getD 0 0).toNat / 64 = 3) := Lib.hid (by rw [← e0]; omega)
  have HL := Lib.hid hll
  have E0 := Lib.hid e0
  clear e0 hll
  by_cases h4 : (9 : Int) ≤ s.size
  · have Hl : Hid (¬ s.data.toList.length < 1 + Ty.after 3) := Lib.hid (by rw [HL.out]; simp [Ty.after]; omega)
    have Hst : Hid (∀ k, 1 ≤ k → k < 9 → Ty.pv s.data.toList k < 72057594037927936) := Lib.hid fun k a b => Ty.pv_small8 _ (by have := Hb.out; have := Hf.out; omega) k a (by omega)
    obtain ⟨PV, HPV⟩ : ∃ f : Nat → Int, Hid (∀ k, f k = (Ty.pv s.data.toList k : Int)) := ⟨fun k => (Ty.pv s.data.toList k : Int), fun _ => rfl⟩
    by_cases h5 : PV 9 < 1073741824
    · have HN := Lib.hid (Ty.num_less H0.out Hb.out Hf.out Hl.out (by show Ty.pv _ 9 < 1073741824; have := HPV.out 9; omega))
      go_enter Tryd.func70, Tryd.ntmps70
      go_wp2
      go_loop [8, 9] (fun n i => ∃ k : Nat, 1 ≤ k ∧ k ≤ 9 ∧ i = .int .i64 k ∧ n = .int .u64 (PV k)) (fun _ i => 9 - (intOf i).toNat)
      case atStart => exact ⟨1, by omega, by omega, rfl, by simp [HPV.out, Ty.pv, E0.out]⟩
      case round =>
        obtain ⟨k, hk1, hk2, rfl, rfl⟩ := hrel
        by_cases hk : k < 9
        · have hks : k < s.size := by omega
          go_wp2
          go_round
          case rel => exact ⟨k + 1, by omega, by omega, by simp, by rw [HPV.out, HPV.out]; exact congrArg (Value.int .u64) (Ty.or_step _ _ k hk1 (Hst.out k hk1 hk) (Ty.at_getD s k hks))⟩
          case measure => simp [intOf]; omega
        · obtain rfl : k = 9 := by omega
          go_wp2
          go_ret3
          exact ⟨by first | (unfold Ty.numV; rw [HN.out, HPV.out]; rfl) | (unfold Ty.numV; rw [HN.out]; rfl), rfl⟩
    · have HN := Lib.hid (Ty.num_whole H0.out Hb.out Hf.out Hl.out (by show ¬ Ty.pv _ 9 < 1073741824; have := HPV.out 9; omega))
      go_enter Tryd.func70, Tryd.ntmps70
      go_wp2
      go_loop [8, 9] (fun n i => ∃ k : Nat, 1 ≤ k ∧ k ≤ 9 ∧ i = .int .i64 k ∧ n = .int .u64 (PV k)) (fun _ i => 9 - (intOf i).toNat)
      case atStart => exact ⟨1, by omega, by omega, rfl, by simp [HPV.out, Ty.pv, E0.out]⟩
      case round =>
        obtain ⟨k, hk1, hk2, rfl, rfl⟩ := hrel
        by_cases hk : k < 9
        · have hks : k < s.size := by omega
          go_wp2
          go_round
          case rel => exact ⟨k + 1, by omega, by omega, by simp, by rw [HPV.out, HPV.out]; exact congrArg (Value.int .u64) (Ty.or_step _ _ k hk1 (Hst.out k hk1 hk) (Ty.at_getD s k hks))⟩
          case measure => simp [intOf]; omega
        · obtain rfl : k = 9 := by omega
          go_wp2
          go_ret3
          exact ⟨by first | (unfold Ty.numV; rw [HN.out, HPV.out]; rfl) | (unfold Ty.numV; rw [HN.out]; rfl), rfl⟩
  · have HN := Lib.hid (Ty.num_cut H0.out Hb.out Hf.out (by rw [HL.out]; simp [Ty.after]; omega))
    go_enter Tryd.func70, Tryd.ntmps70
    go_wp2
    go_ret3
    exact ⟨by first | (unfold Ty.numV; rw [HN.out, HPV.out]; rfl) | (unfold Ty.numV; rw [HN.out]; rfl), rfl⟩
end Go.Proofs.YtccjfmjgkkpndaaDoor
