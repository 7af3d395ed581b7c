import Derived.Test.YtkhiemkekmdhgaaGreatDoorZZAA
import Derived.Test.YtkhiemkekmdhgaaGreatDoorJLay
import Derived.Lib.AppendIntMem
import GoSem.Op.String
namespace Go.Proofs.YtkhiemkekmdhgaaGreatDoor
open Go.RowKit
theorem Ty.length_data (s : ByteArray) : s.data.toList.length = s.size := by rw [Array.length_toList]; rfl
theorem Ty.at_getD (s : ByteArray) (k : Nat) (h : k < s.size) : s[k] = s.data.toList.getD k 0 := by
 have h2 : k < s.data.toList.length := by rw [Ty.length_data]; exact h
 rw [List.getD, List.getElem?_eq_getElem h2]; rfl
theorem Ty.isEmpty_pos (s : ByteArray) (h : 0 < s.size) : s.toList.isEmpty = false := by
 rw [ByteArray.toList_eq, List.isEmpty_eq_false_iff]
 intro e
 have := Ty.length_data s
 rw [e] at this
 simp at this
 omega
theorem Ty.isEmpty_zero (s : ByteArray) (h : s.size = 0) : s.data.toList = [] := List.eq_nil_of_length_eq_zero (by rw [Ty.length_data]; exact h)
def Ty.numV (l : List UInt8) : Value := .tuple #[.int .u64 (Ty.num l).1, .int .i64 (Ty.num l).2.1, .int .i64 (Ty.num l).2.2]
set_option maxHeartbeats 1000000 in
theorem Ty.number_0 (s : ByteArray) (w : World) (h : Ty.Tabs w) (hs : s.size ≤ 9223372036854775807) (h0 : 0 < s.size) (h1 : (s[0].toNat : Int) ≤ 192) (h2 : (s[0].toNat : Int) / 64 = 0) :
 Calls Tryz.prog 144 #[.string s] w fun e w' => e = .returned (Ty.numV s.data.toList) ∧ w' = w := by
 obtain ⟨z0, z1, z2, z3, s0, s1, s2, s3, _⟩ := h
 have hne : s.toList.isEmpty = false := Ty.isEmpty_pos s h0
 have hll : s.data.toList.length = s.size := Ty.length_data s
 have e0 := Ty.at_getD s 0 h0
 have H0 : Hid (0 < s.data.toList.length) := Lib.hid (by omega)
 have Hb : Hid (¬ 192 < (s.data.toList.getD 0 0).toNat) := Lib.hid (by rw [← e0]; omega)
 have Hf : Hid ((s.data.toList.getD 0 0).toNat / 64 = 0) := Lib.hid (by rw [← e0]; omega)
 have Hl : Hid (¬ s.data.toList.length < 1 + Ty.after 0) := Lib.hid (by rw [hll]; show ¬ s.size < 1 + 0; omega)
 have E0 := Lib.hid e0
 clear e0 hll
 have hnz : ¬ ((s[0].toNat : Int) % 64 < 0) := by omega
 have hsz : (1 : Int) ≤ s.size := by omega
 have HN := Lib.hid (Ty.num_whole H0.out Hb.out Hf.out Hl.out (by show ¬ Ty.pv _ 1 < 0; omega))
 go_enter Tryz.func144, Tryz.ntmps144
 go_wp2
 refine wp_loop_rounds 1 ?_; rw [rounds_succ]
 go_wp2
 go_ret3
 exact ⟨by unfold Ty.numV; rw [HN.out]; simp [Ty.pv, Ty.after, E0.out], rfl⟩
set_option maxHeartbeats 1000000 in
theorem Ty.number_1 (s : ByteArray) (w : World) (h : Ty.Tabs w) (hs : s.size ≤ 9223372036854775807) (h0 : 0 < s.size) (h1 : (s[0].toNat : Int) ≤ 192) (h2 : (s[0].toNat : Int) / 64 = 1) :
 Calls Tryz.prog 144 #[.string s] w fun e w' => e = .returned (Ty.numV s.data.toList) ∧ w' = w := by
 obtain ⟨z0, z1, z2, z3, s0, s1, s2, s3, _⟩ := h
 have hne : s.toList.isEmpty = false := Ty.isEmpty_pos s h0
 have hll : s.data.toList.length = s.size := Ty.length_data s
 have e0 := Ty.at_getD s 0 h0
 have H0 : Hid (0 < s.data.toList.length) := Lib.hid (by omega)
 have Hb : Hid (¬ 192 < (s.data.toList.getD 0 0).toNat) := Lib.hid (by rw [← e0]; omega)
 have Hf : Hid ((s.data.toList.getD 0 0).toNat / 64 = 1) := Lib.hid (by rw [← e0]; omega)
 have HL := Lib.hid hll
 have E0 := Lib.hid e0
 clear e0 hll
 by_cases h4 : (2 : Int) ≤ s.size
 ·have Hl : Hid (¬ s.data.toList.length < 1 + Ty.after 1) := Lib.hid (by rw [HL.out]; simp [Ty.after]; omega)
  have Hst : Hid (∀ k, 1 ≤ k → k < 2 → Ty.pv s.data.toList k < 72057594037927936) := Lib.hid fun k a b => Ty.pv_small4 _ k a (by omega)
  obtain ⟨PV, HPV⟩ : ∃ f : Nat → Int, Hid (∀ k, f k = (Ty.pv s.data.toList k : Int)) := ⟨fun k => (Ty.pv s.data.toList k : Int), fun _ => rfl⟩
  by_cases h5 : PV 2 < 64
  ·have HN := Lib.hid (Ty.num_less H0.out Hb.out Hf.out Hl.out (by show Ty.pv _ 2 < 64; have := HPV.out 2; omega))
   go_enter Tryz.func144, Tryz.ntmps144
   go_wp2
   go_loop [8, 9] (fun n i => ∃ k : Nat, 1 ≤ k ∧ k ≤ 2 ∧ i = .int .i64 k ∧ n = .int .u64 (PV k)) (fun _ i => 2 - (intOf i).toNat)
   case atStart => exact ⟨1, by omega, by omega, rfl, by simp [HPV.out, Ty.pv, E0.out]⟩
   case round =>
    obtain ⟨k, hk1, hk2, rfl, rfl⟩ := hrel
    by_cases hk : k < 2
    ·have hks : k < s.size := by omega
     go_wp2
     go_round
     case rel => exact ⟨k + 1, by omega, by omega, by simp, by rw [HPV.out, HPV.out]; exact congrArg (Value.int .u64) (Ty.or_step _ _ k hk1 (Hst.out k hk1 hk) (Ty.at_getD s k hks))⟩
     case measure => simp [intOf]; omega
    ·obtain rfl : k = 2 := by omega
     go_wp2
     go_ret3
     exact ⟨by first | (unfold Ty.numV; rw [HN.out, HPV.out]; rfl) | (unfold Ty.numV; rw [HN.out]; rfl), rfl⟩
  ·have HN := Lib.hid (Ty.num_whole H0.out Hb.out Hf.out Hl.out (by show ¬ Ty.pv _ 2 < 64; have := HPV.out 2; omega))
   go_enter Tryz.func144, Tryz.ntmps144
   go_wp2
   go_loop [8, 9] (fun n i => ∃ k : Nat, 1 ≤ k ∧ k ≤ 2 ∧ i = .int .i64 k ∧ n = .int .u64 (PV k)) (fun _ i => 2 - (intOf i).toNat)
   case atStart => exact ⟨1, by omega, by omega, rfl, by simp [HPV.out, Ty.pv, E0.out]⟩
   case round =>
    obtain ⟨k, hk1, hk2, rfl, rfl⟩ := hrel
    by_cases hk : k < 2
    ·have hks : k < s.size := by omega
     go_wp2
     go_round
     case rel => exact ⟨k + 1, by omega, by omega, by simp, by rw [HPV.out, HPV.out]; exact congrArg (Value.int .u64) (Ty.or_step _ _ k hk1 (Hst.out k hk1 hk) (Ty.at_getD s k hks))⟩
     case measure => simp [intOf]; omega
    ·obtain rfl : k = 2 := by omega
     go_wp2
     go_ret3
     exact ⟨by first | (unfold Ty.numV; rw [HN.out, HPV.out]; rfl) | (unfold Ty.numV; rw [HN.out]; rfl), rfl⟩
 ·have HN := Lib.hid (Ty.num_cut H0.out Hb.out Hf.out (by rw [HL.out]; simp [Ty.after]; omega))
  go_enter Tryz.func144, Tryz.ntmps144
  go_wp2
  go_ret3
  exact ⟨by first | (unfold Ty.numV; rw [HN.out, HPV.out]; rfl) | (unfold Ty.numV; rw [HN.out]; rfl), rfl⟩
set_option maxHeartbeats 1000000 in
theorem Ty.number_2 (s : ByteArray) (w : World) (h : Ty.Tabs w) (hs : s.size ≤ 9223372036854775807) (h0 : 0 < s.size) (h1 : (s[0].toNat : Int) ≤ 192) (h2 : (s[0].toNat : Int) / 64 = 2) :
 Calls Tryz.prog 144 #[.string s] w fun e w' => e = .returned (Ty.numV s.data.toList) ∧ w' = w := by
 obtain ⟨z0, z1, z2, z3, s0, s1, s2, s3, _⟩ := h
 have hne : s.toList.isEmpty = false := Ty.isEmpty_pos s h0
 have hll : s.data.toList.length = s.size := Ty.length_data s
 have e0 := Ty.at_getD s 0 h0
 have H0 : Hid (0 < s.data.toList.length) := Lib.hid (by omega)
 have Hb : Hid (¬ 192 < (s.data.toList.getD 0 0).toNat) := Lib.hid (by rw [← e0]; omega)
 have Hf : Hid ((s.data.toList.getD 0 0).toNat / 64 = 2) := Lib.hid (by rw [← e0]; omega)
 have HL := Lib.hid hll
 have E0 := Lib.hid e0
 clear e0 hll
 by_cases h4 : (4 : Int) ≤ s.size
 ·have Hl : Hid (¬ s.data.toList.length < 1 + Ty.after 2) := Lib.hid (by rw [HL.out]; simp [Ty.after]; omega)
  have Hst : Hid (∀ k, 1 ≤ k → k < 4 → Ty.pv s.data.toList k < 72057594037927936) := Lib.hid fun k a b => Ty.pv_small4 _ k a (by omega)
  obtain ⟨PV, HPV⟩ : ∃ f : Nat → Int, Hid (∀ k, f k = (Ty.pv s.data.toList k : Int)) := ⟨fun k => (Ty.pv s.data.toList k : Int), fun _ => rfl⟩
  by_cases h5 : PV 4 < 16384
  ·have HN := Lib.hid (Ty.num_less H0.out Hb.out Hf.out Hl.out (by show Ty.pv _ 4 < 16384; have := HPV.out 4; omega))
   go_enter Tryz.func144, Tryz.ntmps144
   go_wp2
   go_loop [8, 9] (fun n i => ∃ k : Nat, 1 ≤ k ∧ k ≤ 4 ∧ i = .int .i64 k ∧ n = .int .u64 (PV k)) (fun _ i => 4 - (intOf i).toNat)
   case atStart => exact ⟨1, by omega, by omega, rfl, by simp [HPV.out, Ty.pv, E0.out]⟩
   case round =>
    obtain ⟨k, hk1, hk2, rfl, rfl⟩ := hrel
    by_cases hk : k < 4
    ·have hks : k < s.size := by omega
     go_wp2
     go_round
     case rel => exact ⟨k + 1, by omega, by omega, by simp, by rw [HPV.out, HPV.out]; exact congrArg (Value.int .u64) (Ty.or_step _ _ k hk1 (Hst.out k hk1 hk) (Ty.at_getD s k hks))⟩
     case measure => simp [intOf]; omega
    ·obtain rfl : k = 4 := by omega
     go_wp2
     go_ret3
     exact ⟨by first | (unfold Ty.numV; rw [HN.out, HPV.out]; rfl) | (unfold Ty.numV; rw [HN.out]; rfl), rfl⟩
  ·have HN := Lib.hid (Ty.num_whole H0.out Hb.out Hf.out Hl.out (by show ¬ Ty.pv _ 4 < 16384; have := HPV.out 4; omega))
   go_enter Tryz.func144, Tryz.ntmps144
   go_wp2
   go_loop [8, 9] (fun n i => ∃ k : Nat, 1 ≤ k ∧ k ≤ 4 ∧ i = .int .i64 k ∧ n = .int .u64 (PV k)) (fun _ i => 4 - (intOf i).toNat)
   case atStart => exact ⟨1, by omega, by omega, rfl, by simp [HPV.out, Ty.pv, E0.out]⟩
   case round =>
    obtain ⟨k, hk1, hk2, rfl, rfl⟩ := hrel
    by_cases hk : k < 4
    ·have hks : k < s.size := by omega
     go_wp2
     go_round
     case rel => exact ⟨k + 1, by omega, by omega, by simp, by rw [HPV.out, HPV.out]; exact congrArg (Value.int .u64) (Ty.or_step _ _ k hk1 (Hst.out k hk1 hk) (Ty.at_getD s k hks))⟩
     case measure => simp [intOf]; omega
    ·obtain rfl : k = 4 := by omega
     go_wp2
     go_ret3
     exact ⟨by first | (unfold Ty.numV; rw [HN.out, HPV.out]; rfl) | (unfold Ty.numV; rw [HN.out]; rfl), rfl⟩
 ·have HN := Lib.hid (Ty.num_cut H0.out Hb.out Hf.out (by rw [HL.out]; simp [Ty.after]; omega))
  go_enter Tryz.func144, Tryz.ntmps144
  go_wp2
  go_ret3
  exact ⟨by first | (unfold Ty.numV; rw [HN.out, HPV.out]; rfl) | (unfold Ty.numV; rw [HN.out]; rfl), rfl⟩
set_option maxHeartbeats 1000000 in
theorem Ty.number_3 (s : ByteArray) (w : World) (h : Ty.Tabs w) (hs : s.size ≤ 9223372036854775807) (h0 : 0 < s.size) (h1 : (s[0].toNat : Int) ≤ 192) (h2 : (s[0].toNat : Int) / 64 = 3) :
 Calls Tryz.prog 144 #[.string s] w fun e w' => e = .returned (Ty.numV s.data.toList) ∧ w' = w := by
 obtain ⟨z0, z1, z2, z3, s0, s1, s2, s3, _⟩ := h
 have hne : s.toList.isEmpty = false := Ty.isEmpty_pos s h0
 have hll : s.data.toList.length = s.size := Ty.length_data s
 have e0 := Ty.at_getD s 0 h0
 have H0 : Hid (0 < s.data.toList.length) := Lib.hid (by omega)
 have Hb : Hid (¬ 192 < (s.data.toList.getD 0 0).toNat) := Lib.hid (by rw [← e0]; omega)
 have Hf : Hid ((s.data.toList.getD 0 0).toNat / 64 = 3) := Lib.hid (by rw [← e0]; omega)
 have HL := Lib.hid hll
 have E0 := Lib.hid e0
 clear e0 hll
 by_cases h4 : (9 : Int) ≤ s.size
 ·have Hl : Hid (¬ s.data.toList.length < 1 + Ty.after 3) := Lib.hid (by rw [HL.out]; simp [Ty.after]; omega)
  have Hst : Hid (∀ k, 1 ≤ k → k < 9 → Ty.pv s.data.toList k < 72057594037927936) := Lib.hid fun k a b => Ty.pv_small8 _ (by have := Hb.out; have := Hf.out; omega) k a (by omega)
  obtain ⟨PV, HPV⟩ : ∃ f : Nat → Int, Hid (∀ k, f k = (Ty.pv s.data.toList k : Int)) := ⟨fun k => (Ty.pv s.data.toList k : Int), fun _ => rfl⟩
  by_cases h5 : PV 9 < 1073741824
  ·have HN := Lib.hid (Ty.num_less H0.out Hb.out Hf.out Hl.out (by show Ty.pv _ 9 < 1073741824; have := HPV.out 9; omega))
   go_enter Tryz.func144, Tryz.ntmps144
   go_wp2
   go_loop [8, 9] (fun n i => ∃ k : Nat, 1 ≤ k ∧ k ≤ 9 ∧ i = .int .i64 k ∧ n = .int .u64 (PV k)) (fun _ i => 9 - (intOf i).toNat)
   case atStart => exact ⟨1, by omega, by omega, rfl, by simp [HPV.out, Ty.pv, E0.out]⟩
   case round =>
    obtain ⟨k, hk1, hk2, rfl, rfl⟩ := hrel
    by_cases hk : k < 9
    ·have hks : k < s.size := by omega
     go_wp2
     go_round
     case rel => exact ⟨k + 1, by omega, by omega, by simp, by rw [HPV.out, HPV.out]; exact congrArg (Value.int .u64) (Ty.or_step _ _ k hk1 (Hst.out k hk1 hk) (Ty.at_getD s k hks))⟩
     case measure => simp [intOf]; omega
    ·obtain rfl : k = 9 := by omega
     go_wp2
     go_ret3
     exact ⟨by first | (unfold Ty.numV; rw [HN.out, HPV.out]; rfl) | (unfold Ty.numV; rw [HN.out]; rfl), rfl⟩
  ·have HN := Lib.hid (Ty.num_whole H0.out Hb.out Hf.out Hl.out (by show ¬ Ty.pv _ 9 < 1073741824; have := HPV.out 9; omega))
   go_enter Tryz.func144, Tryz.ntmps144
   go_wp2
   go_loop [8, 9] (fun n i => ∃ k : Nat, 1 ≤ k ∧ k ≤ 9 ∧ i = .int .i64 k ∧ n = .int .u64 (PV k)) (fun _ i => 9 - (intOf i).toNat)
   case atStart => exact ⟨1, by omega, by omega, rfl, by simp [HPV.out, Ty.pv, E0.out]⟩
   case round =>
    obtain ⟨k, hk1, hk2, rfl, rfl⟩ := hrel
    by_cases hk : k < 9
    ·have hks : k < s.size := by omega
     go_wp2
     go_round
     case rel => exact ⟨k + 1, by omega, by omega, by simp, by rw [HPV.out, HPV.out]; exact congrArg (Value.int .u64) (Ty.or_step _ _ k hk1 (Hst.out k hk1 hk) (Ty.at_getD s k hks))⟩
     case measure => simp [intOf]; omega
    ·obtain rfl : k = 9 := by omega
     go_wp2
     go_ret3
     exact ⟨by first | (unfold Ty.numV; rw [HN.out, HPV.out]; rfl) | (unfold Ty.numV; rw [HN.out]; rfl), rfl⟩
 ·have HN := Lib.hid (Ty.num_cut H0.out Hb.out Hf.out (by rw [HL.out]; simp [Ty.after]; omega))
  go_enter Tryz.func144, Tryz.ntmps144
  go_wp2
  go_ret3
  exact ⟨by first | (unfold Ty.numV; rw [HN.out, HPV.out]; rfl) | (unfold Ty.numV; rw [HN.out]; rfl), rfl⟩
end Go.Proofs.YtkhiemkekmdhgaaGreatDoor
namespace Go.Proofs.YtkhiemkekmdhgaaGreatDoor
open Go.RowKit
set_option maxHeartbeats 400000 in
theorem Ty.number_c (s : ByteArray) (w : World) (h : Ty.Tabs w) (hs : s.size ≤ 9223372036854775807) :
 Calls Tryz.prog 144 #[.string s] w fun e w' => e = .returned (Ty.numV s.data.toList) ∧ w' = w := by
 by_cases h0 : 0 < s.size
 ·by_cases h1 : (s[0].toNat : Int) ≤ 192
  ·have hf : (s[0].toNat : Int) / 64 = 0 ∨ (s[0].toNat : Int) / 64 = 1 ∨ (s[0].toNat : Int) / 64 = 2 ∨ (s[0].toNat : Int) / 64 = 3 := by omega
   rcases hf with hf | hf | hf | hf
   ·exact Ty.number_0 s w h hs h0 h1 hf
   ·exact Ty.number_1 s w h hs h0 h1 hf
   ·exact Ty.number_2 s w h hs h0 h1 hf
   ·exact Ty.number_3 s w h hs h0 h1 hf
  ·have hne : s.toList.isEmpty = false := Ty.isEmpty_pos s h0
   have HN := Lib.hid (Ty.num_high (l := s.data.toList) (by rw [Ty.length_data]; exact h0) (by rw [← Ty.at_getD s 0 h0]; omega))
   go_enter Tryz.func144, Tryz.ntmps144
   go_wp2
   go_ret3
   exact ⟨by unfold Ty.numV; rw [HN.out]; rfl, rfl⟩
 ·have hz : s.size = 0 := by omega
  have he : s.toList.isEmpty = true := by rw [ByteArray.toList_eq, Ty.isEmpty_zero s hz]; rfl
  have HN := Lib.hid (Ty.isEmpty_zero s hz)
  clear h0 hz
  go_enter Tryz.func144, Tryz.ntmps144
  go_wp2
  go_ret3
  exact ⟨by rw [HN.out]; rfl, rfl⟩
def Ty.S (l : List UInt8) : ByteArray := ⟨l.toArray⟩
theorem Ty.S_data (s : ByteArray) : Ty.S s.data.toList = s := rfl
theorem Ty.data_S (l : List UInt8) : (Ty.S l).data.toList = l := rfl
theorem Ty.size_S (l : List UInt8) : (Ty.S l).size = l.length := rfl
theorem Ty.extract_S (s : ByteArray) (a b : Nat) : s.extract a b = Ty.S ((s.data.toList.drop a).take (b - a)) := ByteArray.extract_mk s.data.toList a b
def Ty.txtV (l : List UInt8) (most : Int) : Value := .tuple #[.string (Ty.S (Ty.txt l most).1), .int .i64 (Ty.txt l most).2.1, .int .i64 (Ty.txt l most).2.2]
set_option maxHeartbeats 400000 in
theorem Ty.text_bad (s : ByteArray) (most : Int) (w : World) (h : Ty.Tabs w) (hs : s.size ≤ 9223372036854775807) (he : (Ty.num s.data.toList).2.2 ≠ 0) :
 Calls Tryz.prog 130 #[.string s, .int .i64 most] w fun e w' => e = .returned (Ty.txtV s.data.toList most) ∧ w' = w := by
 have HT := Lib.hid (Ty.txt_bad (most := most) he)
 have hb : (((Ty.num s.data.toList).2.2 : Int) != 0) = true := by rw [bne_iff_ne]; omega
 clear he
 go_enter Tryz.func130, Tryz.ntmps130
 go_wp2_with fail
 refine (Ty.number_c s _ h hs).mono ?_
 rintro e w' ⟨rfl, rfl⟩
 unfold Ty.numV
 go_wp2
 go_ret3
 exact ⟨by unfold Ty.txtV; rw [HT.out]; rfl, rfl⟩
theorem Ty.number_is (s : ByteArray) (w : World) (h : Ty.Tabs w) (hs : s.size ≤ 9223372036854775807) {n sz : Nat} (hn : Ty.num s.data.toList = (n, sz, 0)) :
 Calls Tryz.prog 144 #[.string s] w fun e w' => e = .returned (.tuple #[.int .u64 n, .int .i64 sz, .int .i64 0]) ∧ w' = w := by
 have := Ty.number_c s w h hs
 unfold Ty.numV at this
 rw [hn] at this
 exact this
set_option maxHeartbeats 400000 in
theorem Ty.text_good (s : ByteArray) (most : Int) (w : World) (h : Ty.Tabs w) (hs : s.size ≤ 9223372036854775807) (hm : -9223372036854775808 ≤ most ∧ most ≤ 9223372036854775807) {n sz : Nat} (hn : Ty.num s.data.toList = (n, sz, 0)) :
 Calls Tryz.prog 130 #[.string s, .int .i64 most] w fun e w' => e = .returned (Ty.txtV s.data.toList most) ∧ w' = w := by
 have hsz : sz ≤ s.size := by have := Ty.num_size s.data.toList; rw [hn, Ty.length_data] at this; exact this
 have HN := Lib.hid hn
 have e1 : (Ty.num s.data.toList).1 = n := by rw [hn]
 have e2 : (Ty.num s.data.toList).2.1 = sz := by rw [hn]
 have e3 : (Ty.num s.data.toList).2.2 = 0 := by rw [hn]
 obtain ⟨hm1, hm2⟩ := hm
 clear hn
 by_cases h1 : most < 0
 ·have HT := Lib.hid (Ty.txt_long e3 (.inl h1))
  clear e1 e2 e3
  go_enter Tryz.func130, Tryz.ntmps130
  go_wp2_with fail
  refine (Ty.number_is s _ h hs HN.out).mono ?_
  rintro e w' ⟨rfl, rfl⟩
  go_wp2
  go_ret3
  exact ⟨by unfold Ty.txtV; rw [HT.out]; rfl, rfl⟩
 ·by_cases h2 : most < (n : Int)
  ·have HT := Lib.hid (Ty.txt_long e3 (.inr (by rw [e1]; exact h2)))
   clear e1 e2 e3
   go_enter Tryz.func130, Tryz.ntmps130
   go_wp2_with fail
   refine (Ty.number_is s _ h hs HN.out).mono ?_
   rintro e w' ⟨rfl, rfl⟩
   go_wp2
   go_ret3
   exact ⟨by unfold Ty.txtV; rw [HT.out]; rfl, rfl⟩
  ·by_cases h3 : (s.size : Int) - (sz : Int) < (n : Int)
   ·have HT := Lib.hid (Ty.txt_short e3 (most := most) (by rw [e1]; omega) (by rw [e1, e2, Ty.length_data]; omega))
    clear e1 e2 e3
    go_enter Tryz.func130, Tryz.ntmps130
    go_wp2_with fail
    refine (Ty.number_is s _ h hs HN.out).mono ?_
    rintro e w' ⟨rfl, rfl⟩
    go_wp2
    go_ret3
    exact ⟨by unfold Ty.txtV; rw [HT.out]; rfl, rfl⟩
   ·have HT := Lib.hid (Ty.txt_whole e3 (most := most) (by rw [e1]; omega) (by rw [e1, e2, Ty.length_data]; omega))
    have E1 := Lib.hid e1
    have E2 := Lib.hid e2
    clear e1 e2 e3
    have hns : n ≤ s.size := by omega
    have hes : sz + n ≤ s.size := by omega
    go_enter Tryz.func130, Tryz.ntmps130
    go_wp2_with fail
    refine (Ty.number_is s _ h hs HN.out).mono ?_
    rintro e w' ⟨rfl, rfl⟩
    go_wp2
    go_ret3
    refine ⟨?_, rfl⟩
    unfold Ty.txtV
    rw [HT.out]
    simp only [E1.out, E2.out, Ty.extract_S, Nat.add_sub_cancel_left, Int.natCast_add]
    rfl
theorem Ty.text_r (s : ByteArray) (most : Int) (w : World) (h : Ty.Tabs w) (hs : s.size ≤ 9223372036854775807) (hm : -9223372036854775808 ≤ most ∧ most ≤ 9223372036854775807) :
 Calls Tryz.prog 130 #[.string s, .int .i64 most] w fun e w' => e = .returned (Ty.txtV s.data.toList most) ∧ w' = w := by
 by_cases he : (Ty.num s.data.toList).2.2 = 0
 ·exact Ty.text_good s most w h hs hm (n := (Ty.num s.data.toList).1) (sz := (Ty.num s.data.toList).2.1) (by rw [← he])
 ·exact Ty.text_bad s most w h hs he
end Go.Proofs.YtkhiemkekmdhgaaGreatDoor
namespace Go.Proofs.YtkhiemkekmdhgaaGreatDoor
open Go.RowKit
def Jn.Pow (w : World) : Prop := Lib.TabIs Tryz.prog w "internal/strconv.uint64pow10" .u64 Lib.pow10Tab
theorem Jn.S_add (a : ByteArray) (l : List UInt8) : a ++ (⟨l.toArray⟩ : ByteArray) = Ty.S (a.data.toList ++ l) := by
 apply ByteArray.ext
 rw [ByteArray.data_append]
 unfold Ty.S
 simp
theorem Jn.grow_below (w : World) (k : Nat) (os : Array Obj) : Below w.heap.size w (Sort.grow (w.drewN k) os) := Lib.below_grow _ w (Nat.le_refl _) k os
end Go.Proofs.YtkhiemkekmdhgaaGreatDoor
namespace Go.Proofs.YtkhiemkekmdhgaaGreatDoor
open Go.RowKit
def Jn.NumD (w : World) (l s : List UInt8) (e : Ending) (w' : World) : Prop := ∃ m : Int, e = .returned (.tuple #[.int .i64 m, .bool (Jn.okN l s)]) ∧ (Jn.okN l s = true → m = (Jn.num l s : Nat)) ∧ Below w.heap.size w w'
end Go.Proofs.YtkhiemkekmdhgaaGreatDoor
namespace Go.Proofs.YtkhiemkekmdhgaaGreatDoor
open Go.RowKit
structure Kn.C where
 k : Int
 null : Bool
abbrev Kn.C.val (c : Kn.C) : Value := .agg #[.int .i64 c.k, .bool c.null]
structure Kn.Cols (w : World) (v : Value) (l : List Kn.C) : Prop where
 is : ∃ a c, v = .slice a l.length c ∧ (l = [] ∨ ∃ b o, a = some ⟨b, o, none⟩ ∧ b < w.heap.size ∧ l.length ≤ 9223372036854775807 ∧
  ∀ i x, l[i]? = some x → w.cell? ⟨b, o + i * 2, none⟩ = some (.int .i64 x.k) ∧ w.cell? ⟨b, o + i * 2 + 1, none⟩ = some (.bool x.null))
structure Kn.Vals (w : World) (v : Value) (l : List Kn.V) : Prop where
 is : ∃ a c, v = .slice a l.length c ∧ (l = [] ∨ ∃ b o, a = some ⟨b, o, none⟩ ∧ b < w.heap.size ∧ l.length ≤ 9223372036854775807 ∧ ∀ i x, l[i]? = some x → Kn.At w b (o + i * 3) x)
theorem Kn.Cols.later {w w' : World} {v : Value} {l : List Kn.C} (h : Kn.Cols w v l) (g : Below w.heap.size w w') : Kn.Cols w' v l := by
 obtain ⟨a, c, rfl, h⟩ := h
 refine ⟨a, c, rfl, ?_⟩
 rcases h with h | ⟨b, o, rfl, hlt, hm, h⟩
 ·exact .inl h
 ·refine .inr ⟨b, o, rfl, Nat.lt_of_lt_of_le hlt g.size, hm, fun i x hx => ?_⟩
  exact ⟨(g.cell (p := ⟨b, o + i * 2, none⟩) hlt).trans (h i x hx).1, (g.cell (p := ⟨b, o + i * 2 + 1, none⟩) hlt).trans (h i x hx).2⟩
theorem Kn.Vals.later {w w' : World} {v : Value} {l : List Kn.V} (h : Kn.Vals w v l) (g : Below w.heap.size w w') : Kn.Vals w' v l := by
 obtain ⟨a, c, rfl, h⟩ := h
 refine ⟨a, c, rfl, ?_⟩
 rcases h with h | ⟨b, o, rfl, hlt, hm, h⟩
 ·exact .inl h
 ·exact .inr ⟨b, o, rfl, Nat.lt_of_lt_of_le hlt g.size, hm, fun i x hx => (h i x hx).later g⟩
def Kn.C.good (c : Kn.C) : Bool := !((c.k != 1) && (c.k != 2))
def Kn.headOk : List Kn.C → Bool
 | [] => true
 | c :: _ => !c.null
def Kn.right (l : List Kn.C) : Bool := decide (1 ≤ l.length) && decide (l.length ≤ 6) && Kn.headOk l && l.all Kn.C.good
def Kn.fits (c : Kn.C) (v : Kn.V) : Bool :=
 if v.null = true then c.null && (v.n == 0) && (v.s.toList == (⟨#[]⟩ : ByteArray).toList)
 else if c.k = 1 then v.s.toList == (⟨#[]⟩ : ByteArray).toList
 else (v.n == 0) && decide (v.s.size ≤ 64)
set_option maxRecDepth 100000 in
set_option maxHeartbeats 1000000 in
theorem Kn.fitsColumn_c (c : Kn.C) (v : Kn.V) (w : World) :
 Calls Tryz.prog 83 #[c.val, v.val] w fun e w' => e = .returned (.bool (Kn.fits c v)) ∧ Below w.heap.size w w' := by
 obtain ⟨ck, cn⟩ := c
 obtain ⟨vn, vi, vs⟩ := v
 unfold Kn.C.val Kn.V.val
 have hk : ((ck == 1) = true ∧ ck = 1) ∨ ((ck == 1) = false ∧ ck ≠ 1) := by
  by_cases h : ck = 1
  ·left; exact ⟨by rw [h]; rfl, h⟩
  ·right; exact ⟨by rw [beq_eq_false_iff_ne]; exact h, h⟩
 have he : (⟨#[]⟩ : ByteArray).toList = [] := by rw [ByteArray.toList_eq]
 generalize hB : Kn.fits ⟨ck, cn⟩ ⟨vn, vi, vs⟩ = B
 have HB := Lib.hid hB
 clear hB
 cases vn
 ·rcases hk with ⟨hk, rfl⟩ | ⟨hk, hk2⟩
  all_goals
   go_enter Tryz.func83, Tryz.ntmps83
   go_wp2
  all_goals
   go_ret
   refine ⟨?_, ((Below.refl _ w).alloc (Nat.le_refl _) _).alloc (by simp) _⟩
   rw [← HB.out]
   simp_all [Kn.fits]
   try omega
 ·cases cn
  all_goals
   go_enter Tryz.func83, Tryz.ntmps83
   go_wp2
  all_goals
   go_ret
   refine ⟨?_, ((Below.refl _ w).alloc (Nat.le_refl _) _).alloc (by simp) _⟩
   rw [← HB.out]
   simp_all [Kn.fits]
   try omega
theorem Kn.retb {x y : Bool} (h : x = y) : Ending.returned (.bool x) = Ending.returned (.bool y) := by rw [h]
theorem Kn.right_long (l : List Kn.C) (h : 6 < l.length) : Kn.right l = false := by
 unfold Kn.right
 rw [decide_eq_false (p := l.length ≤ 6) (by omega)]
 simp
theorem Kn.right_null (l : List Kn.C) (x : Kn.C) (h : l[0]? = some x) (hn : x.null = true) : Kn.right l = false := by
 cases l with
 | nil => cases h
 | cons y t =>
   obtain rfl : y = x := by simpa using h
   simp [Kn.right, Kn.headOk, hn]
theorem Kn.right_bad (l : List Kn.C) (k : Nat) (x : Kn.C) (h : l[k]? = some x) (hb : x.good = false) : Kn.right l = false := by
 have : l.all Kn.C.good = false := by
  rw [Bool.eq_false_iff]
  intro e
  have := List.all_eq_true.1 e x (List.mem_of_getElem? h)
  rw [hb] at this; cases this
 unfold Kn.right
 rw [this]
 simp
theorem Kn.all_step (l : List Kn.C) (k : Nat) (x : Kn.C) (h : l[k]? = some x) (hg : x.good = true) (ha : (l.take k).all Kn.C.good = true) : (l.take (k + 1)).all Kn.C.good = true := by
 rw [List.take_add_one, h, List.all_append, ha]
 simp [hg]
theorem Kn.right_good (l : List Kn.C) (x : Kn.C) (h : l[0]? = some x) (hn : x.null = false) (h6 : l.length ≤ 6) (ha : (l.take l.length).all Kn.C.good = true) : Kn.right l = true := by
 cases l with
 | nil => cases h
 | cons y t =>
   obtain rfl : y = x := by simpa using h
   rw [List.take_length] at ha
   have e : Kn.headOk (y :: t) = true := by show (!y.null) = true; rw [hn]; rfl
   unfold Kn.right
   rw [ha, e, decide_eq_true (by simp), decide_eq_true h6]
   rfl
theorem Kn.good_ways (x : Kn.C) : (x.good = true ∧ (x.k != 1) = false) ∨ (x.good = true ∧ (x.k != 1) = true ∧ (x.k != 2) = false) ∨ (x.good = false ∧ (x.k != 1) = true ∧ (x.k != 2) = true) := by
 unfold Kn.C.good
 cases (x.k != 1) <;> cases (x.k != 2) <;> simp
set_option maxRecDepth 100000 in
set_option maxHeartbeats 1000000 in
theorem Kn.right_c (v : Value) (l : List Kn.C) (w : World) (h : Kn.Cols w v l) :
 Calls Tryz.prog 19 #[v] w fun e w' => e = .returned (.bool (Kn.right l)) ∧ Below w.heap.size w w' := by
 obtain ⟨a, c, rfl, h⟩ := h
 have h' : l = [] ∨ ∃ x, l[0]? = some x := by cases l with
  | nil => exact .inl rfl
  | cons x t => exact .inr ⟨x, rfl⟩
 rcases h' with rfl | ⟨x0, hx0⟩
 ·go_enter Tryz.func19, Tryz.ntmps19
  go_wp2
  go_ret
  exact ⟨rfl, Below.refl _ _⟩
 ·have hpos : 0 < l.length := (List.getElem?_eq_some_iff.1 hx0).1
  rcases h with rfl | ⟨b, o, rfl, hlt, hm, hc⟩
  ·cases hx0
  ·have d1 : ¬ (l.length : Int) < 1 := by omega
   by_cases h6 : 6 < l.length
   ·have d2 : (6 : Int) < (l.length : Int) := by omega
    rw [Kn.right_long l h6]
    go_enter Tryz.func19, Tryz.ntmps19
    go_wp2
    go_ret
    exact ⟨rfl, Below.refl _ _⟩
   ·have d2 : ¬ (6 : Int) < (l.length : Int) := by omega
    have d3 : (0 : Int) < (l.length : Int) := by omega
    obtain ⟨c0, c1⟩ := hc 0 x0 hx0
    rw [Nat.zero_mul, Nat.add_zero] at c0 c1
    cases hn : x0.null
    ·rw [hn] at c1
     have hR := Kn.right_good l x0 hx0 hn (by omega)
     generalize hB : Kn.right l = B
     have HB := Lib.hid hB
     rw [hB] at hR
     clear hB
     go_enter Tryz.func19, Tryz.ntmps19
     go_wp2_with fail
     go_loopw [21] (fun i wr => ∃ k : Nat, k ≤ l.length ∧ i = .int .i64 k ∧ (l.take k).all Kn.C.good = true ∧ Below w.heap.size w wr) (fun i _ => l.length - (intOf i).toNat)
     case atStart => exact ⟨0, by omega, rfl, rfl, Below.refl _ _⟩
     case round =>
      obtain ⟨k, hk, rfl, hg, hb⟩ := hrel
      by_cases hkl : k < l.length
      ·have hx := List.getElem?_eq_getElem hkl
       generalize l[k] = x at hx
       have e0 := (hb.cell (p := ⟨b, o + k * 2, none⟩) hlt).trans (hc k x hx).1
       have e1 := (hb.cell (p := ⟨b, o + k * 2 + 1, none⟩) hlt).trans (hc k x hx).2
       have dk : (k : Int) < (l.length : Int) := by omega
       rcases Kn.good_ways x with ⟨g, g1⟩ | ⟨g, g1, g2⟩ | ⟨g, g1, g2⟩
       ·go_wp2
        go_roundw
        case rel => exact ⟨k + 1, by omega, by simp, Kn.all_step l k x hx g hg, hb.alloc hb.size _⟩
        case measure => simp [intOf]; omega
       ·go_wp2
        go_roundw
        case rel => exact ⟨k + 1, by omega, by simp, Kn.all_step l k x hx g hg, hb.alloc hb.size _⟩
        case measure => simp [intOf]; omega
       ·go_wp2
        go_ret
        exact ⟨Kn.retb ((Kn.right_bad l k x hx g).symm.trans HB.out), hb.alloc hb.size _⟩
      ·obtain rfl : k = l.length := by omega
       have dk : ¬ (l.length : Int) < (l.length : Int) := by omega
       go_wp2
       go_ret
       exact ⟨Kn.retb (hR hg).symm, hb⟩
    ·rw [hn] at c1
     rw [Kn.right_null l x0 hx0 hn]
     go_enter Tryz.func19, Tryz.ntmps19
     go_wp2
     go_ret
     exact ⟨rfl, Below.refl _ _⟩
end Go.Proofs.YtkhiemkekmdhgaaGreatDoor
namespace Go.Proofs.YtkhiemkekmdhgaaGreatDoor
open Go.RowKit
def Kn.fitsAll : List Kn.C → List Kn.V → Bool
 | c :: cs, v :: vs => Kn.fits c v && Kn.fitsAll cs vs
 | _, _ => true
def Kn.fitsE (s : List Kn.C) (r : List Kn.V) : Int := if Kn.right s = true then (if r.length = s.length then (if Kn.fitsAll s r = true then 0 else 6) else 7) else 4
def Kn.keyE (s : List Kn.C) (k : Kn.V) : Int := if Kn.right s = true then (match s with | [] => 4 | c :: _ => if Kn.fits c k = true then 0 else 6) else 4
theorem Kn.fitsAll_step (s : List Kn.C) (r : List Kn.V) (k : Nat) (c : Kn.C) (v : Kn.V) (hc : s[k]? = some c) (hv : r[k]? = some v) : Kn.fitsAll (s.drop k) (r.drop k) = (Kn.fits c v && Kn.fitsAll (s.drop (k + 1)) (r.drop (k + 1))) := by
 obtain ⟨h1, rfl⟩ := List.getElem?_eq_some_iff.1 hc
 obtain ⟨h2, rfl⟩ := List.getElem?_eq_some_iff.1 hv
 rw [List.drop_eq_getElem_cons h1, List.drop_eq_getElem_cons h2]
 rfl
theorem Kn.fitsAll_end (s : List Kn.C) (r : List Kn.V) (k : Nat) (h : ¬ k < s.length) : Kn.fitsAll (s.drop k) (r.drop k) = true := by
 rw [List.drop_eq_nil_of_le (by omega)]
 rfl
theorem Kn.fitsE_bad {s : List Kn.C} {r : List Kn.V} (h : Kn.right s = false) : Kn.fitsE s r = 4 := by unfold Kn.fitsE; rw [h]; rfl
theorem Kn.fitsE_len {s : List Kn.C} {r : List Kn.V} (h : Kn.right s = true) (hn : r.length ≠ s.length) : Kn.fitsE s r = 7 := by unfold Kn.fitsE; rw [h, if_pos rfl, if_neg hn]
theorem Kn.fitsE_kind {s : List Kn.C} {r : List Kn.V} (h : Kn.right s = true) (hn : r.length = s.length) (hf : Kn.fitsAll s r = false) : Kn.fitsE s r = 6 := by unfold Kn.fitsE; rw [h, if_pos rfl, if_pos hn, hf]; rfl
theorem Kn.fitsE_ok {s : List Kn.C} {r : List Kn.V} (h : Kn.right s = true) (hn : r.length = s.length) (hf : Kn.fitsAll s r = true) : Kn.fitsE s r = 0 := by unfold Kn.fitsE; rw [h, if_pos rfl, if_pos hn, hf]; rfl
theorem Kn.right_len {s : List Kn.C} (h : Kn.right s = true) : 1 ≤ s.length ∧ s.length ≤ 6 := by
 unfold Kn.right at h
 simp only [Bool.and_eq_true, decide_eq_true_iff] at h
 omega
set_option maxHeartbeats 1000000 in
set_option maxRecDepth 100000 in
theorem Kn.fits_c (v u : Value) (s : List Kn.C) (r : List Kn.V) (w : World) (hs : Kn.Cols w v s) (hr : Kn.Vals w u r) :
 Calls Tryz.prog 50 #[v, u] w fun e w' => e = .returned (.int .i64 (Kn.fitsE s r)) ∧ Below w.heap.size w w' := by
 have cR := Kn.right_c v s
 cases hR : Kn.right s
 ·rw [Kn.fitsE_bad hR]
  rw [hR] at cR
  go_enter Tryz.func50, Tryz.ntmps50
  go_wp2_with fail
  refine (cR _ hs).mono ?_
  rintro e w1 ⟨rfl, g1⟩
  go_wp2
  go_ret
  exact ⟨rfl, g1⟩
 ·rw [hR] at cR
  have hl := Kn.right_len hR
  by_cases hn : r.length = s.length
  ·have k0 := fun hf => Kn.fitsE_ok (s := s) (r := r) hR hn hf
   have k6 := fun hf => Kn.fitsE_kind (s := s) (r := r) hR hn hf
   generalize hE : Kn.fitsE s r = E at *
   have HE := Lib.hid hE
   clear hE
   have hs0 := hs
   obtain ⟨a, c, rfl, h⟩ := hs
   obtain ⟨a2, c2, rfl, h2⟩ := hr
   rcases h with rfl | ⟨b, o, rfl, hlt, hm, hc⟩
   ·simp at hl
   ·rcases h2 with rfl | ⟨b2, o2, rfl, hlt2, hm2, hc2⟩
    ·simp at hn; omega
    ·rw [hn]
     go_enter Tryz.func50, Tryz.ntmps50
     go_wp2_with fail
     refine (cR _ hs0).mono ?_
     rintro e w1 ⟨rfl, g1⟩
     have hz : ((s.length : Int) != (s.length : Int)) = false := by simp
     go_wp2_with fail
     go_loopw [17] (fun i wr => ∃ k : Nat, k ≤ s.length ∧ i = .int .i64 k ∧ Kn.fitsAll s r = Kn.fitsAll (s.drop k) (r.drop k) ∧ Below w.heap.size w wr) (fun i _ => s.length - (intOf i).toNat)
     case atStart => exact ⟨0, by omega, rfl, rfl, g1⟩
     case round =>
      obtain ⟨k, hk, rfl, hg, hb⟩ := hrel
      have HG := Lib.hid hg
      clear hg
      by_cases hkl : k < s.length
      ·have hx := List.getElem?_eq_getElem hkl
       have hy := List.getElem?_eq_getElem (show k < r.length by omega)
       generalize s[k] = x at hx
       generalize r[k] = y at hy
       have HS := Lib.hid (Kn.fitsAll_step s r k x y hx hy)
       have e0 := (hb.cell (p := ⟨b, o + k * 2, none⟩) hlt).trans (hc k x hx).1
       have e1 := (hb.cell (p := ⟨b, o + k * 2 + 1, none⟩) hlt).trans (hc k x hx).2
       have hy2 := hc2 k y hy
       have f0 := (hb.cell (p := ⟨b2, o2 + k * 3, none⟩) hlt2).trans hy2.c0
       have f1 := (hb.cell (p := ⟨b2, o2 + k * 3 + 1, none⟩) hlt2).trans hy2.c1
       have f2 := (hb.cell (p := ⟨b2, o2 + k * 3 + 2, none⟩) hlt2).trans hy2.c2
       have dk : (k : Int) < (s.length : Int) := by omega
       have dk0 : (0 : Int) ≤ (k : Int) := by omega
       have hltr : b < wr.heap.size := Nat.lt_of_lt_of_le hlt hb.size
       have hlt2r : b2 < wr.heap.size := Nat.lt_of_lt_of_le hlt2 hb.size
       have cF := Kn.fitsColumn_c x y
       go_wp2_with fail
       have gN : Below wr.heap.size wr (wr.alloc (.cells #[.int .i64 x.k, .bool x.null] 50)) := (Below.refl _ _).alloc (Nat.le_refl _) _
       have n0 := Kn.cell_new wr #[.int .i64 x.k, .bool x.null] 50 0 _ rfl
       have n1 := Kn.cell_new wr #[.int .i64 x.k, .bool x.null] 50 1 _ rfl
       have F0 := (gN.cell (p := ⟨b2, o2 + k * 3, none⟩) hlt2r).trans f0
       have F1 := (gN.cell (p := ⟨b2, o2 + k * 3 + 1, none⟩) hlt2r).trans f1
       have F2 := (gN.cell (p := ⟨b2, o2 + k * 3 + 2, none⟩) hlt2r).trans f2
       have hbN := hb.trans (gN.mono hb.size)
       generalize wr.alloc (.cells #[.int .i64 x.k, .bool x.null] 50) = wn at n0 n1 F0 F1 F2 hbN ⊢
       clear gN e0 e1 f0 f1 f2 hy2 hltr hlt2r
       refine wp_region_still_tail 5 (by kernel_rfl) (by kernel_rfl) ?_
       simp only [List.take_succ_cons, List.take_zero, List.drop_succ_cons, List.drop_zero]
       change wpStill _ _ (World.drew _) (fun a' => wpList _ _ _ _ a' (World.drew _)) _ _
       still_step
       still_step
       still_step
       still_step
       still_step
       refine wpStill_nil ?_
       have HK := Lib.hid k6
       clear k6 k0
       cases hf : Kn.fits x y
       ·rw [hf] at cF
        have HF := Lib.hid hf
        clear hf
        go_wp2_with fail
        refine (cF _).mono ?_
        rintro e w2 ⟨rfl, g2⟩
        go_wp2
        go_ret
        have he := HK.out (by rw [HG.out, HS.out, HF.out]; rfl)
        subst he
        exact ⟨rfl, hbN.drew.trans (g2.mono hbN.size)⟩
       ·rw [hf] at cF
        have HF := Lib.hid hf
        clear hf
        go_wp2_with fail
        refine (cF _).mono ?_
        rintro e w2 ⟨rfl, g2⟩
        go_wp2
        go_roundw
        case rel => exact ⟨k + 1, by omega, by simp, by rw [HG.out, HS.out, HF.out]; rfl, hbN.drew.trans (g2.mono hbN.size)⟩
        case measure => simp [intOf]; omega
      ·obtain rfl : k = s.length := by omega
       have dk : ¬ (s.length : Int) < (s.length : Int) := by omega
       have he := k0 (HG.out.trans (Kn.fitsAll_end s r _ (by omega)))
       clear k6 k0
       go_wp2
       go_ret
       subst he
       exact ⟨rfl, hb⟩
  ·rw [Kn.fitsE_len hR hn]
   obtain ⟨a2, c2, rfl, h2⟩ := hr
   have hs0 := hs
   obtain ⟨a, c, rfl, h⟩ := hs
   have hz : ((r.length : Int) != (s.length : Int)) = true := by rw [bne_iff_ne]; omega
   go_enter Tryz.func50, Tryz.ntmps50
   go_wp2_with fail
   refine (cR _ hs0).mono ?_
   rintro e w1 ⟨rfl, g1⟩
   go_wp2
   go_ret
   exact ⟨rfl, g1⟩
theorem Kn.right_head {s : List Kn.C} (h : Kn.right s = true) : ∃ x t, s = x :: t ∧ x.null = false ∧ x.good = true := by
 cases s with
 | nil => cases h
 | cons x t =>
   unfold Kn.right at h
   simp only [Bool.and_eq_true, Kn.headOk, List.all_cons, Bool.not_eq_true'] at h
   exact ⟨x, t, rfl, h.1.2, h.2.1⟩
end Go.Proofs.YtkhiemkekmdhgaaGreatDoor
namespace Go.Proofs.YtkhiemkekmdhgaaGreatDoor.Ty
theorem head_is (n : Nat) : (head n).toNat = 64 * form n + (if form n = 3 then 0 else n / 256 ^ after (form n)) ∧ (form n ≠ 3 → n / 256 ^ after (form n) < 64) := by
 rcases form_is n with ⟨h1, h⟩ | ⟨_, h1, h⟩ | ⟨_, h1, h⟩ | ⟨_, h⟩
 ·have e : n / 256 ^ 0 = n := by simp
  refine ⟨?_, fun _ => by rw [h]; show n / 256 ^ 0 < 64; omega⟩
  unfold head
  rw [h, toNat_ofNat8 _ (by rw [if_neg (by omega)]; show 64 * 0 + n / 256 ^ 0 < 256; omega)]
 ·have e : (256 : Nat) ^ 1 = 256 := by decide
  refine ⟨?_, fun _ => by rw [h]; show n / 256 ^ 1 < 64; omega⟩
  unfold head
  rw [h, toNat_ofNat8 _ (by rw [if_neg (by omega)]; show 64 * 1 + n / 256 ^ 1 < 256; omega)]
 ·have e : (256 : Nat) ^ 3 = 16777216 := by decide
  refine ⟨?_, fun _ => by rw [h]; show n / 256 ^ 3 < 64; omega⟩
  unfold head
  rw [h, toNat_ofNat8 _ (by rw [if_neg (by omega)]; show 64 * 2 + n / 256 ^ 3 < 256; omega)]
 ·refine ⟨?_, fun hh => absurd h hh⟩
  unfold head
  rw [h, toNat_ofNat8 _ (by rw [if_pos rfl]; omega)]
end Go.Proofs.YtkhiemkekmdhgaaGreatDoor.Ty
namespace Go.Proofs.YtkhiemkekmdhgaaGreatDoor.Ty
theorem low_at : ∀ (a n j : Nat), j < a → (low a n).getD j 0 = UInt8.ofNat (n / 256 ^ (a - 1 - j) % 256)
 | 0, _, _, h => by omega
 | a + 1, n, 0, _ => by rw [low_succ]; simp
 | a + 1, n, j + 1, h => by
   rw [low_succ, List.getD_cons_succ, low_at a n j (by omega), show a + 1 - 1 - (j + 1) = a - 1 - j by omega]
theorem head_mod (n : Nat) (hn : U64 n) : (head n).toNat % 64 = n / 256 ^ after (form n) ∧ (head n).toNat / 64 = form n ∧ (head n).toNat ≤ 192 := by
 obtain ⟨h1, h2⟩ := head_is n
 have := form_le n
 by_cases h3 : form n = 3
 ·have e8 : (256 : Nat) ^ 8 = 18446744073709551616 := by decide
  have ed : n / 256 ^ 8 = 0 := by unfold U64 at hn; omega
  rw [if_pos h3] at h1
  rw [h1, h3]
  refine ⟨?_, by omega, by omega⟩
  show 192 % 64 = n / 256 ^ 8
  omega
 ·rw [if_neg h3] at h1
  have hq := h2 h3
  rw [h1]
  generalize n / 256 ^ after (form n) = q at hq ⊢
  exact ⟨by omega, by omega, by omega⟩
theorem at_zero (n : Nat) (r : List UInt8) : (encU n ++ r).getD 0 0 = head n := rfl
theorem at_succ (n : Nat) (r : List UInt8) (j : Nat) (h : j < after (form n)) : (encU n ++ r).getD (j + 1) 0 = UInt8.ofNat (n / 256 ^ (after (form n) - 1 - j) % 256) := by
 rw [encU_split, List.append_assoc, List.singleton_append, List.getD_cons_succ, ← low_at _ n j h]
 rw [List.getD, List.getD, List.getElem?_append_left (by rw [low_length]; exact h)]
theorem pv_encU (n : Nat) (hn : U64 n) (r : List UInt8) : ∀ j, j ≤ after (form n) → pv (encU n ++ r) (j + 1) = n / 256 ^ (after (form n) - j)
 | 0, _ => by
   show ((encU n ++ r).getD 0 0).toNat % 64 = _
   rw [at_zero, (head_mod n hn).1, Nat.sub_zero]
 | j + 1, h => by
   rw [pv_succ _ (j + 1) (by omega), pv_encU n hn r j (by omega), at_succ n r j (by omega), toNat_ofNat8 _ (Nat.mod_lt _ (by omega))]
   have e : after (form n) - j = after (form n) - 1 - j + 1 := by omega
   rw [e, Nat.pow_succ, ← Nat.div_div_eq_div_mul, show after (form n) - (j + 1) = after (form n) - 1 - j by omega]
   omega
theorem small_le (n : Nat) : small (form n) ≤ n := by
 rcases form_is n with ⟨_, h⟩ | ⟨_, _, h⟩ | ⟨_, _, h⟩ | ⟨_, h⟩ <;> rw [h] <;> simp only [small] <;> omega
theorem num_encU (n : Nat) (hn : U64 n) (r : List UInt8) : num (encU n ++ r) = (n, (encU n).length, 0) := by
 obtain ⟨_, h2, h3⟩ := head_mod n hn
 have hp := pv_encU n hn r (after (form n)) (Nat.le_refl _)
 rw [Nat.sub_self, Nat.pow_zero, Nat.div_one] at hp
 have hl : (encU n ++ r).length = 1 + after (form n) + r.length := by rw [List.length_append, encU_length]
 have e : 1 + after (form n) = after (form n) + 1 := by omega
 rw [num_whole (f := form n) (by omega) (by rw [at_zero]; omega) (by rw [at_zero]; exact h2) (by omega) (by rw [e, hp]; have := small_le n; omega), e, hp, encU_length, e]
theorem pv_div (l : List UInt8) : ∀ (d j : Nat), pv l (j + d + 1) / 256 ^ d = pv l (j + 1)
 | 0, j => by simp
 | d + 1, j => by
   have ih := pv_div l d j
   have hb := (l.getD (j + d + 1) 0).toNat_lt
   rw [show j + (d + 1) + 1 = j + d + 1 + 1 by omega, pv_succ l (j + d + 1) (by omega), Nat.pow_succ, Nat.mul_comm (256 ^ d) 256, ← Nat.div_div_eq_div_mul, ← ih]
   congr 1
   omega
theorem pv_form (l : List UInt8) (f : Nat) (hf : f ≤ 3) (h3 : f = 3 → (l.getD 0 0).toNat % 64 = 0) (hs : small f ≤ pv l (1 + after f)) : form (pv l (1 + after f)) = f := by
 rcases (by omega : f = 0 ∨ f = 1 ∨ f = 2 ∨ f = 3) with rfl | rfl | rfl | rfl
 ·have h1 := pv_lt l 0
  have hs' : 0 ≤ pv l (0 + 1) := by omega
  show form (pv l (0 + 1)) = 0
  unfold form; rw [if_pos (by omega)]
 ·have h1 := pv_lt l 1
  have hs' : 64 ≤ pv l (1 + 1) := hs
  show form (pv l (1 + 1)) = 1
  unfold form; rw [if_neg (by omega), if_pos (by omega)]
 ·have h1 := pv_lt l 3
  have hs' : 16384 ≤ pv l (3 + 1) := hs
  show form (pv l (3 + 1)) = 2
  unfold form; rw [if_neg (by omega), if_neg (by omega), if_pos (by omega)]
 ·have hs' : 1073741824 ≤ pv l (8 + 1) := hs
  show form (pv l (8 + 1)) = 3
  unfold form; rw [if_neg (by omega), if_neg (by omega), if_neg (by omega)]
theorem low_pv (l : List UInt8) : ∀ (a m : Nat), m + a + 1 ≤ l.length → low a (pv l (m + a + 1)) = (l.drop (m + 1)).take a
 | 0, m, _ => by simp [low]
 | a + 1, m, h => by
   rw [low_succ, show m + (a + 1) + 1 = (m + 1) + a + 1 by omega, low_pv l a (m + 1) (by omega), pv_div l a (m + 1), pv_succ l (m + 1) (by omega)]
   have hb := (l.getD (m + 1) 0).toNat_lt
   have hl : m + 1 < l.length := by omega
   rw [List.drop_eq_getElem_cons hl, List.take_succ_cons]
   congr 1
   have e : l.getD (m + 1) 0 = l[m + 1] := by rw [List.getD, List.getElem?_eq_getElem hl]; rfl
   rw [e] at hb ⊢
   rw [show (pv l (m + 1) * 256 + l[m + 1].toNat) % 256 = l[m + 1].toNat by omega]
   simp
theorem encU_num (l : List UInt8) (h : (num l).2.2 = 0) : encU (num l).1 = l.take (num l).2.1 ∧ (num l).2.1 ≤ l.length := by
 rcases num_cases l with ⟨_, hne, f, hf, h1, h2, h3, e, hl, hs⟩ | ⟨h', _⟩
 ·rw [e]
  refine ⟨?_, hl⟩
  have h30 : f = 3 → (l.getD 0 0).toNat % 64 = 0 := by intro h; subst h; omega
  have hfm := pv_form l f hf h30 hs
  show encU (pv l (1 + after f)) = l.take (1 + after f)
  unfold encU
  rw [hfm]
  have hp := low_pv l (after f) 0 (by omega)
  rw [show 0 + after f + 1 = 1 + after f by omega, Nat.zero_add] at hp
  rw [hp]
  obtain ⟨b, r, rfl⟩ : ∃ b r, l = b :: r := by cases l with
   | nil => exact absurd rfl hne
   | cons b r => exact ⟨b, r, rfl⟩
  rw [show 1 + after f = after f + 1 by omega, List.take_succ_cons, List.drop_one, List.tail_cons]
  congr 1
  apply UInt8.toNat_inj.1
  rw [(head_is _).1, show after f + 1 = 1 + after f by omega, hfm]
  have hd := pv_div (b :: r) (after f) 0
  rw [show 0 + after f + 1 = 1 + after f by omega] at hd
  have hb1 : pv (b :: r) (0 + 1) = b.toNat % 64 := rfl
  simp only [List.getD_cons_zero] at h1 h2 h3
  split
  ·rename_i h
   subst h
   omega
  ·rw [hd, hb1]
   omega
 ·omega
end Go.Proofs.YtkhiemkekmdhgaaGreatDoor.Ty
