import Derived.Test.YteaglaijkafphaaDoorWAA
import Derived.IntWalk
import Derived.Laws.Bits64
namespace Go.Proofs.YteaglaijkafphaaDoor.Ty
theorem wrapu64 (n : Int) (h0 : 0 ≤ n) (h1 : n < 2 ^ 64) : IntKind.u64.wrap n = n := by rw [IntKind.wrap_u64]; omega
def pv (l : List UInt8) : Nat → Nat
 | 0 => 0
 | 1 => (l.getD 0 0).toNat % 64
 | k + 2 => pv l (k + 1) * 256 + (l.getD (k + 1) 0).toNat
def small : Nat → Nat
 | 0 => 0
 | 1 => 64
 | 2 => 16384
 | _ => 1073741824
def num (l : List UInt8) : Nat × Nat × Nat :=
 match l with
 | [] => (0, 0, 2)
 | b :: r => if 192 < b.toNat then (0, 0, 5) else if (b :: r).length < 1 + after (b.toNat / 64) then (0, 0, 2) else
   if pv (b :: r) (1 + after (b.toNat / 64)) < small (b.toNat / 64) then (0, 0, 5) else (pv (b :: r) (1 + after (b.toNat / 64)), 1 + after (b.toNat / 64), 0)
theorem pv_succ (l : List UInt8) (k : Nat) (hk : 1 ≤ k) : pv l (k + 1) = pv l k * 256 + (l.getD k 0).toNat := by
 match k, hk with
 | k + 1, _ => rfl
theorem pv_lt (l : List UInt8) : ∀ k, pv l (k + 1) < 64 * 256 ^ k
 | 0 => by simp [pv]; omega
 | k + 1 => by
   have := pv_lt l k
   have h2 := (l.getD (k + 1) 0).toNat_lt
   rw [pv_succ l (k + 1) (by omega), Nat.pow_succ]
   omega
theorem pv_lt9 (l : List UInt8) (h : (l.getD 0 0).toNat % 64 = 0) : ∀ k, pv l (k + 1) < 256 ^ k
 | 0 => by simp [pv]; simpa using h
 | k + 1 => by
   have := pv_lt9 l h k
   have h2 := (l.getD (k + 1) 0).toNat_lt
   rw [pv_succ l (k + 1) (by omega), Nat.pow_succ]
   omega
theorem or_byte (p b : Nat) (hp : p < 72057594037927936) (hb : b < 256) : bits .or .u64 ((p * 256 : Nat) : Int) (b : Int) = ((p * 256 + b : Nat) : Int) := by
 have h := (bits_nat .u64 64 (by decide) wrapu64 (p * 256) b (by omega) (by omega)).2
 rw [h]
 have := Nat.two_pow_add_eq_or_of_lt (i := 8) (b := b) (by omega) p
 rw [Nat.mul_comm p 256]
 exact congrArg Int.ofNat this.symm
def txt (l : List UInt8) (most : Int) : List UInt8 × Nat × Nat :=
 if (num l).2.2 ≠ 0 then ([], 0, (num l).2.2) else if most < 0 ∨ most < ((num l).1 : Int) then ([], 0, 3) else
  if l.length - (num l).2.1 < (num l).1 then ([], 0, 2) else ((l.drop (num l).2.1).take (num l).1, (num l).2.1 + (num l).1, 0)
theorem num_is (l : List UInt8) (h : 0 < l.length) : num l = if 192 < (l.getD 0 0).toNat then (0, 0, 5) else if l.length < 1 + after ((l.getD 0 0).toNat / 64) then (0, 0, 2) else
 if pv l (1 + after ((l.getD 0 0).toNat / 64)) < small ((l.getD 0 0).toNat / 64) then (0, 0, 5) else (pv l (1 + after ((l.getD 0 0).toNat / 64)), 1 + after ((l.getD 0 0).toNat / 64), 0) := by
 cases l with
 | nil => simp at h
 | cons b r => rfl
theorem num_high {l : List UInt8} (h : 0 < l.length) (hb : 192 < (l.getD 0 0).toNat) : num l = (0, 0, 5) := by rw [num_is l h, if_pos hb]
theorem num_cut {l : List UInt8} (h : 0 < l.length) (hb : ¬ 192 < (l.getD 0 0).toNat) {f : Nat} (hf : (l.getD 0 0).toNat / 64 = f) (hl : l.length < 1 + after f) : num l = (0, 0, 2) := by rw [num_is l h, if_neg hb, hf, if_pos hl]
theorem num_less {l : List UInt8} (h : 0 < l.length) (hb : ¬ 192 < (l.getD 0 0).toNat) {f : Nat} (hf : (l.getD 0 0).toNat / 64 = f) (hl : ¬ l.length < 1 + after f) (hp : pv l (1 + after f) < small f) : num l = (0, 0, 5) := by rw [num_is l h, if_neg hb, hf, if_neg hl, if_pos hp]
theorem num_whole {l : List UInt8} (h : 0 < l.length) (hb : ¬ 192 < (l.getD 0 0).toNat) {f : Nat} (hf : (l.getD 0 0).toNat / 64 = f) (hl : ¬ l.length < 1 + after f) (hp : ¬ pv l (1 + after f) < small f) : num l = (pv l (1 + after f), 1 + after f, 0) := by rw [num_is l h, if_neg hb, hf, if_neg hl, if_neg hp]
theorem or_step (l : List UInt8) (b : UInt8) (k : Nat) (hk : 1 ≤ k) (hp : pv l k < 72057594037927936) (hb : b = l.getD k 0) :
 bits .or .u64 (IntKind.u64.wrap ((pv l k : Int) * 256)) (IntKind.u64.wrap (b.toNat : Int)) = (pv l (k + 1) : Int) := by
 have h2 := b.toNat_lt
 rw [wrapu64 _ (by omega) (by omega), wrapu64 _ (by omega) (by omega), pv_succ l k hk, ← hb]
 exact or_byte (pv l k) b.toNat hp (by omega)
theorem pv_small4 (l : List UInt8) (k : Nat) (h1 : 1 ≤ k) (h : k ≤ 4) : pv l k < 72057594037927936 := by
 have := pv_lt l (k - 1)
 rw [show k - 1 + 1 = k by omega] at this
 have h2 : 256 ^ (k - 1) ≤ 256 ^ 3 := Nat.pow_le_pow_right (by omega) (by omega)
 have h3 : (256 : Nat) ^ 3 = 16777216 := by decide
 omega
theorem pv_small8 (l : List UInt8) (h0 : (l.getD 0 0).toNat % 64 = 0) (k : Nat) (h1 : 1 ≤ k) (h : k ≤ 8) : pv l k < 72057594037927936 := by
 have := pv_lt9 l h0 (k - 1)
 rw [show k - 1 + 1 = k by omega] at this
 have h2 : 256 ^ (k - 1) ≤ 256 ^ 7 := Nat.pow_le_pow_right (by omega) (by omega)
 have h3 : (256 : Nat) ^ 7 = 72057594037927936 := by decide
 omega
theorem num_cases (l : List UInt8) : (num l).2.2 = 0 ∧ l ≠ [] ∧ (∃ f, f ≤ 3 ∧ 64 * f ≤ (l.getD 0 0).toNat ∧ (l.getD 0 0).toNat < 64 * f + 64 ∧ (l.getD 0 0).toNat ≤ 192 ∧ num l = (pv l (1 + after f), 1 + after f, 0) ∧ 1 + after f ≤ l.length ∧ small f ≤ pv l (1 + after f)) ∨
 ((num l).2.2 = 2 ∨ (num l).2.2 = 5) ∧ (num l).1 = 0 ∧ (num l).2.1 = 0 := by
 by_cases h0 : 0 < l.length
 ·by_cases h1 : 192 < (l.getD 0 0).toNat
  ·right; rw [num_high h0 h1]; simp
  ·obtain ⟨f, hf⟩ : ∃ f, (l.getD 0 0).toNat / 64 = f := ⟨_, rfl⟩
   by_cases h2 : l.length < 1 + after f
   ·right; rw [num_cut h0 h1 hf h2]; simp
   ·by_cases h3 : pv l (1 + after f) < small f
    ·right; rw [num_less h0 h1 hf h2 h3]; simp
    ·left
     have e := num_whole h0 h1 hf h2 h3
     exact ⟨by rw [e], by intro e; subst e; simp at h0, f, by omega, by omega, by omega, by omega, e, by omega, by omega⟩
 ·right
  have : l = [] := List.eq_nil_of_length_eq_zero (by omega)
  subst this
  simp [num]
theorem num_u64 (l : List UInt8) : U64 (num l).1 := by
 rcases num_cases l with ⟨_, _, f, hf, h1, h2, h3, e, _, _⟩ | ⟨_, h, _⟩
 ·rw [e]
  unfold U64
  rcases (by omega : f = 0 ∨ f = 1 ∨ f = 2 ∨ f = 3) with rfl | rfl | rfl | rfl
  ·have := pv_lt l 0; show pv l (0 + 1) < 2 ^ 64; omega
  ·have := pv_lt l 1; show pv l (1 + 1) < 2 ^ 64; omega
  ·have := pv_lt l 3; show pv l (3 + 1) < 2 ^ 64; omega
  ·have := pv_lt9 l (by omega) 8; show pv l (8 + 1) < 2 ^ 64; omega
 ·rw [h]; unfold U64; omega
theorem num_size (l : List UInt8) : (num l).2.1 ≤ l.length := by
 rcases num_cases l with ⟨_, _, f, hf, h1, h2, h3, e, hl, _⟩ | ⟨_, _, h⟩
 ·rw [e]; exact hl
 ·rw [h]; omega
theorem txt_bad {l : List UInt8} {most : Int} (h : (num l).2.2 ≠ 0) : txt l most = ([], 0, (num l).2.2) := by unfold txt; rw [if_pos h]
theorem txt_long {l : List UInt8} {most : Int} (h : (num l).2.2 = 0) (h2 : most < 0 ∨ most < ((num l).1 : Int)) : txt l most = ([], 0, 3) := by unfold txt; rw [if_neg (by omega), if_pos h2]
theorem txt_short {l : List UInt8} {most : Int} (h : (num l).2.2 = 0) (h2 : ¬ (most < 0 ∨ most < ((num l).1 : Int))) (h3 : l.length - (num l).2.1 < (num l).1) : txt l most = ([], 0, 2) := by unfold txt; rw [if_neg (by omega), if_neg h2, if_pos h3]
theorem txt_whole {l : List UInt8} {most : Int} (h : (num l).2.2 = 0) (h2 : ¬ (most < 0 ∨ most < ((num l).1 : Int))) (h3 : ¬ l.length - (num l).2.1 < (num l).1) : txt l most = ((l.drop (num l).2.1).take (num l).1, (num l).2.1 + (num l).1, 0) := by unfold txt; rw [if_neg (by omega), if_neg h2, if_neg h3]
theorem txt_size (l : List UInt8) (most : Int) : (txt l most).2.1 ≤ l.length := by
 have := num_size l
 unfold txt
 split
 ·simp
 ·split
  ·simp
  ·split
   ·simp
   ·simp only; omega
end Go.Proofs.YteaglaijkafphaaDoor.Ty
namespace Go.Proofs.YteaglaijkafphaaDoor
open Go.RowKit
theorem Ty.length_data (s : ByteArray) : s.data.toList.length = s.size := by rw [Array.length_toList]; rfl
theorem Ty.at_getD (s : ByteArray) (k : Nat) (h : k < s.size) : s[k] = s.data.toList.getD k 0 := by
 have h2 : k < s.data.toList.length := by rw [Ty.length_data]; exact h
 rw [List.getD, List.getElem?_eq_getElem h2]; rfl
theorem Ty.isEmpty_pos (s : ByteArray) (h : 0 < s.size) : s.toList.isEmpty = false := by
 rw [ByteArray.toList_eq, List.isEmpty_eq_false_iff]
 intro e
 have := Ty.length_data s
 rw [e] at this
 simp at this
 omega
theorem Ty.isEmpty_zero (s : ByteArray) (h : s.size = 0) : s.data.toList = [] := List.eq_nil_of_length_eq_zero (by rw [Ty.length_data]; exact h)
def Ty.numV (l : List UInt8) : Value := .tuple #[.int .u64 (Ty.num l).1, .int .i64 (Ty.num l).2.1, .int .i64 (Ty.num l).2.2]
set_option maxHeartbeats 1000000 in
theorem Ty.number_0 (s : ByteArray) (w : World) (h : Ty.Tabs w) (hs : s.size ≤ 9223372036854775807) (h0 : 0 < s.size) (h1 : (s[0].toNat : Int) ≤ 192) (h2 : (s[0].toNat : Int) / 64 = 0) :
 Calls Tryd.prog 92 #[.string s] w fun e w' => e = .returned (Ty.numV s.data.toList) ∧ w' = w := by
 obtain ⟨z0, z1, z2, z3, s0, s1, s2, s3, _⟩ := h
 have hne : s.toList.isEmpty = false := Ty.isEmpty_pos s h0
 have hll : s.data.toList.length = s.size := Ty.length_data s
 have e0 := Ty.at_getD s 0 h0
 have H0 : Hid (0 < s.data.toList.length) := Lib.hid (by omega)
 have Hb : Hid (¬ 192 < (s.data.toList.getD 0 0).toNat) := Lib.hid (by rw [← e0]; omega)
 have Hf : Hid ((s.data.toList.getD 0 0).toNat / 64 = 0) := Lib.hid (by rw [← e0]; omega)
 have Hl : Hid (¬ s.data.toList.length < 1 + Ty.after 0) := Lib.hid (by rw [hll]; show ¬ s.size < 1 + 0; omega)
 have E0 := Lib.hid e0
 clear e0 hll
 have hnz : ¬ ((s[0].toNat : Int) % 64 < 0) := by omega
 have hsz : (1 : Int) ≤ s.size := by omega
 have HN := Lib.hid (Ty.num_whole H0.out Hb.out Hf.out Hl.out (by show ¬ Ty.pv _ 1 < 0; omega))
 go_enter Tryd.func92, Tryd.ntmps92
 go_wp2
 refine wp_loop_rounds 1 ?_; rw [rounds_succ]
 go_wp2
 go_ret3
 exact ⟨by unfold Ty.numV; rw [HN.out]; simp [Ty.pv, Ty.after, E0.out], rfl⟩
set_option maxHeartbeats 1000000 in
theorem Ty.number_1 (s : ByteArray) (w : World) (h : Ty.Tabs w) (hs : s.size ≤ 9223372036854775807) (h0 : 0 < s.size) (h1 : (s[0].toNat : Int) ≤ 192) (h2 : (s[0].toNat : Int) / 64 = 1) :
 Calls Tryd.prog 92 #[.string s] w fun e w' => e = .returned (Ty.numV s.data.toList) ∧ w' = w := by
 obtain ⟨z0, z1, z2, z3, s0, s1, s2, s3, _⟩ := h
 have hne : s.toList.isEmpty = false := Ty.isEmpty_pos s h0
 have hll : s.data.toList.length = s.size := Ty.length_data s
 have e0 := Ty.at_getD s 0 h0
 have H0 : Hid (0 < s.data.toList.length) := Lib.hid (by omega)
 have Hb : Hid (¬ 192 < (s.data.toList.getD 0 0).toNat) := Lib.hid (by rw [← e0]; omega)
 have Hf : Hid ((s.data.toList.getD 0 0).toNat / 64 = 1) := Lib.hid (by rw [← e0]; omega)
 have HL := Lib.hid hll
 have E0 := Lib.hid e0
 clear e0 hll
 by_cases h4 : (2 : Int) ≤ s.size
 ·have Hl : Hid (¬ s.data.toList.length < 1 + Ty.after 1) := Lib.hid (by rw [HL.out]; simp [Ty.after]; omega)
  have Hst : Hid (∀ k, 1 ≤ k → k < 2 → Ty.pv s.data.toList k < 72057594037927936) := Lib.hid fun k a b => Ty.pv_small4 _ k a (by omega)
  obtain ⟨PV, HPV⟩ : ∃ f : Nat → Int, Hid (∀ k, f k = (Ty.pv s.data.toList k : Int)) := ⟨fun k => (Ty.pv s.data.toList k : Int), fun _ => rfl⟩
  by_cases h5 : PV 2 < 64
  ·have HN := Lib.hid (Ty.num_less H0.out Hb.out Hf.out Hl.out (by show Ty.pv _ 2 < 64; have := HPV.out 2; omega))
   go_enter Tryd.func92, Tryd.ntmps92
   go_wp2
   go_loop [8, 9] (fun n i => ∃ k : Nat, 1 ≤ k ∧ k ≤ 2 ∧ i = .int .i64 k ∧ n = .int .u64 (PV k)) (fun _ i => 2 - (intOf i).toNat)
   case atStart => exact ⟨1, by omega, by omega, rfl, by simp [HPV.out, Ty.pv, E0.out]⟩
   case round =>
    obtain ⟨k, hk1, hk2, rfl, rfl⟩ := hrel
    by_cases hk : k < 2
    ·have hks : k < s.size := by omega
     go_wp2
     go_round
     case rel => exact ⟨k + 1, by omega, by omega, by simp, by rw [HPV.out, HPV.out]; exact congrArg (Value.int .u64) (Ty.or_step _ _ k hk1 (Hst.out k hk1 hk) (Ty.at_getD s k hks))⟩
     case measure => simp [intOf]; omega
    ·obtain rfl : k = 2 := by omega
     go_wp2
     go_ret3
     exact ⟨by first | (unfold Ty.numV; rw [HN.out, HPV.out]; rfl) | (unfold Ty.numV; rw [HN.out]; rfl), rfl⟩
  ·have HN := Lib.hid (Ty.num_whole H0.out Hb.out Hf.out Hl.out (by show ¬ Ty.pv _ 2 < 64; have := HPV.out 2; omega))
   go_enter Tryd.func92, Tryd.ntmps92
   go_wp2
   go_loop [8, 9] (fun n i => ∃ k : Nat, 1 ≤ k ∧ k ≤ 2 ∧ i = .int .i64 k ∧ n = .int .u64 (PV k)) (fun _ i => 2 - (intOf i).toNat)
   case atStart => exact ⟨1, by omega, by omega, rfl, by simp [HPV.out, Ty.pv, E0.out]⟩
   case round =>
    obtain ⟨k, hk1, hk2, rfl, rfl⟩ := hrel
    by_cases hk : k < 2
    ·have hks : k < s.size := by omega
     go_wp2
     go_round
     case rel => exact ⟨k + 1, by omega, by omega, by simp, by rw [HPV.out, HPV.out]; exact congrArg (Value.int .u64) (Ty.or_step _ _ k hk1 (Hst.out k hk1 hk) (Ty.at_getD s k hks))⟩
     case measure => simp [intOf]; omega
    ·obtain rfl : k = 2 := by omega
     go_wp2
     go_ret3
     exact ⟨by first | (unfold Ty.numV; rw [HN.out, HPV.out]; rfl) | (unfold Ty.numV; rw [HN.out]; rfl), rfl⟩
 ·have HN := Lib.hid (Ty.num_cut H0.out Hb.out Hf.out (by rw [HL.out]; simp [Ty.after]; omega))
  go_enter Tryd.func92, Tryd.ntmps92
  go_wp2
  go_ret3
  exact ⟨by first | (unfold Ty.numV; rw [HN.out, HPV.out]; rfl) | (unfold Ty.numV; rw [HN.out]; rfl), rfl⟩
set_option maxHeartbeats 1000000 in
theorem Ty.number_2 (s : ByteArray) (w : World) (h : Ty.Tabs w) (hs : s.size ≤ 9223372036854775807) (h0 : 0 < s.size) (h1 : (s[0].toNat : Int) ≤ 192) (h2 : (s[0].toNat : Int) / 64 = 2) :
 Calls Tryd.prog 92 #[.string s] w fun e w' => e = .returned (Ty.numV s.data.toList) ∧ w' = w := by
 obtain ⟨z0, z1, z2, z3, s0, s1, s2, s3, _⟩ := h
 have hne : s.toList.isEmpty = false := Ty.isEmpty_pos s h0
 have hll : s.data.toList.length = s.size := Ty.length_data s
 have e0 := Ty.at_getD s 0 h0
 have H0 : Hid (0 < s.data.toList.length) := Lib.hid (by omega)
 have Hb : Hid (¬ 192 < (s.data.toList.getD 0 0).toNat) := Lib.hid (by rw [← e0]; omega)
 have Hf : Hid ((s.data.toList.getD 0 0).toNat / 64 = 2) := Lib.hid (by rw [← e0]; omega)
 have HL := Lib.hid hll
 have E0 := Lib.hid e0
 clear e0 hll
 by_cases h4 : (4 : Int) ≤ s.size
 ·have Hl : Hid (¬ s.data.toList.length < 1 + Ty.after 2) := Lib.hid (by rw [HL.out]; simp [Ty.after]; omega)
  have Hst : Hid (∀ k, 1 ≤ k → k < 4 → Ty.pv s.data.toList k < 72057594037927936) := Lib.hid fun k a b => Ty.pv_small4 _ k a (by omega)
  obtain ⟨PV, HPV⟩ : ∃ f : Nat → Int, Hid (∀ k, f k = (Ty.pv s.data.toList k : Int)) := ⟨fun k => (Ty.pv s.data.toList k : Int), fun _ => rfl⟩
  by_cases h5 : PV 4 < 16384
  ·have HN := Lib.hid (Ty.num_less H0.out Hb.out Hf.out Hl.out (by show Ty.pv _ 4 < 16384; have := HPV.out 4; omega))
   go_enter Tryd.func92, Tryd.ntmps92
   go_wp2
   go_loop [8, 9] (fun n i => ∃ k : Nat, 1 ≤ k ∧ k ≤ 4 ∧ i = .int .i64 k ∧ n = .int .u64 (PV k)) (fun _ i => 4 - (intOf i).toNat)
   case atStart => exact ⟨1, by omega, by omega, rfl, by simp [HPV.out, Ty.pv, E0.out]⟩
   case round =>
    obtain ⟨k, hk1, hk2, rfl, rfl⟩ := hrel
    by_cases hk : k < 4
    ·have hks : k < s.size := by omega
     go_wp2
     go_round
     case rel => exact ⟨k + 1, by omega, by omega, by simp, by rw [HPV.out, HPV.out]; exact congrArg (Value.int .u64) (Ty.or_step _ _ k hk1 (Hst.out k hk1 hk) (Ty.at_getD s k hks))⟩
     case measure => simp [intOf]; omega
    ·obtain rfl : k = 4 := by omega
     go_wp2
     go_ret3
     exact ⟨by first | (unfold Ty.numV; rw [HN.out, HPV.out]; rfl) | (unfold Ty.numV; rw [HN.out]; rfl), rfl⟩
  ·have HN := Lib.hid (Ty.num_whole H0.out Hb.out Hf.out Hl.out (by show ¬ Ty.pv _ 4 < 16384; have := HPV.out 4; omega))
   go_enter Tryd.func92, Tryd.ntmps92
   go_wp2
   go_loop [8, 9] (fun n i => ∃ k : Nat, 1 ≤ k ∧ k ≤ 4 ∧ i = .int .i64 k ∧ n = .int .u64 (PV k)) (fun _ i => 4 - (intOf i).toNat)
   case atStart => exact ⟨1, by omega, by omega, rfl, by simp [HPV.out, Ty.pv, E0.out]⟩
   case round =>
    obtain ⟨k, hk1, hk2, rfl, rfl⟩ := hrel
    by_cases hk : k < 4
    ·have hks : k < s.size := by omega
     go_wp2
     go_round
     case rel => exact ⟨k + 1, by omega, by omega, by simp, by rw [HPV.out, HPV.out]; exact congrArg (Value.int .u64) (Ty.or_step _ _ k hk1 (Hst.out k hk1 hk) (Ty.at_getD s k hks))⟩
     case measure => simp [intOf]; omega
    ·obtain rfl : k = 4 := by omega
     go_wp2
     go_ret3
     exact ⟨by first | (unfold Ty.numV; rw [HN.out, HPV.out]; rfl) | (unfold Ty.numV; rw [HN.out]; rfl), rfl⟩
 ·have HN := Lib.hid (Ty.num_cut H0.out Hb.out Hf.out (by rw [HL.out]; simp [Ty.after]; omega))
  go_enter Tryd.func92, Tryd.ntmps92
  go_wp2
  go_ret3
  exact ⟨by first | (unfold Ty.numV; rw [HN.out, HPV.out]; rfl) | (unfold Ty.numV; rw [HN.out]; rfl), rfl⟩
set_option maxHeartbeats 1000000 in
theorem Ty.number_3 (s : ByteArray) (w : World) (h : Ty.Tabs w) (hs : s.size ≤ 9223372036854775807) (h0 : 0 < s.size) (h1 : (s[0].toNat : Int) ≤ 192) (h2 : (s[0].toNat : Int) / 64 = 3) :
 Calls Tryd.prog 92 #[.string s] w fun e w' => e = .returned (Ty.numV s.data.toList) ∧ w' = w := by
 obtain ⟨z0, z1, z2, z3, s0, s1, s2, s3, _⟩ := h
 have hne : s.toList.isEmpty = false := Ty.isEmpty_pos s h0
 have hll : s.data.toList.length = s.size := Ty.length_data s
 have e0 := Ty.at_getD s 0 h0
 have H0 : Hid (0 < s.data.toList.length) := Lib.hid (by omega)
 have Hb : Hid (¬ 192 < (s.data.toList.getD 0 0).toNat) := Lib.hid (by rw [← e0]; omega)
 have Hf : Hid ((s.data.toList.getD 0 0).toNat / 64 = 3) := Lib.hid (by rw [← e0]; omega)
 have HL := Lib.hid hll
 have E0 := Lib.hid e0
 clear e0 hll
 by_cases h4 : (9 : Int) ≤ s.size
 ·have Hl : Hid (¬ s.data.toList.length < 1 + Ty.after 3) := Lib.hid (by rw [HL.out]; simp [Ty.after]; omega)
  have Hst : Hid (∀ k, 1 ≤ k → k < 9 → Ty.pv s.data.toList k < 72057594037927936) := Lib.hid fun k a b => Ty.pv_small8 _ (by have := Hb.out; have := Hf.out; omega) k a (by omega)
  obtain ⟨PV, HPV⟩ : ∃ f : Nat → Int, Hid (∀ k, f k = (Ty.pv s.data.toList k : Int)) := ⟨fun k => (Ty.pv s.data.toList k : Int), fun _ => rfl⟩
  by_cases h5 : PV 9 < 1073741824
  ·have HN := Lib.hid (Ty.num_less H0.out Hb.out Hf.out Hl.out (by show Ty.pv _ 9 < 1073741824; have := HPV.out 9; omega))
   go_enter Tryd.func92, Tryd.ntmps92
   go_wp2
   go_loop [8, 9] (fun n i => ∃ k : Nat, 1 ≤ k ∧ k ≤ 9 ∧ i = .int .i64 k ∧ n = .int .u64 (PV k)) (fun _ i => 9 - (intOf i).toNat)
   case atStart => exact ⟨1, by omega, by omega, rfl, by simp [HPV.out, Ty.pv, E0.out]⟩
   case round =>
    obtain ⟨k, hk1, hk2, rfl, rfl⟩ := hrel
    by_cases hk : k < 9
    ·have hks : k < s.size := by omega
     go_wp2
     go_round
     case rel => exact ⟨k + 1, by omega, by omega, by simp, by rw [HPV.out, HPV.out]; exact congrArg (Value.int .u64) (Ty.or_step _ _ k hk1 (Hst.out k hk1 hk) (Ty.at_getD s k hks))⟩
     case measure => simp [intOf]; omega
    ·obtain rfl : k = 9 := by omega
     go_wp2
     go_ret3
     exact ⟨by first | (unfold Ty.numV; rw [HN.out, HPV.out]; rfl) | (unfold Ty.numV; rw [HN.out]; rfl), rfl⟩
  ·have HN := Lib.hid (Ty.num_whole H0.out Hb.out Hf.out Hl.out (by show ¬ Ty.pv _ 9 < 1073741824; have := HPV.out 9; omega))
   go_enter Tryd.func92, Tryd.ntmps92
   go_wp2
   go_loop [8, 9] (fun n i => ∃ k : Nat, 1 ≤ k ∧ k ≤ 9 ∧ i = .int .i64 k ∧ n = .int .u64 (PV k)) (fun _ i => 9 - (intOf i).toNat)
   case atStart => exact ⟨1, by omega, by omega, rfl, by simp [HPV.out, Ty.pv, E0.out]⟩
   case round =>
    obtain ⟨k, hk1, hk2, rfl, rfl⟩ := hrel
    by_cases hk : k < 9
    ·have hks : k < s.size := by omega
     go_wp2
     go_round
     case rel => exact ⟨k + 1, by omega, by omega, by simp, by rw [HPV.out, HPV.out]; exact congrArg (Value.int .u64) (Ty.or_step _ _ k hk1 (Hst.out k hk1 hk) (Ty.at_getD s k hks))⟩
     case measure => simp [intOf]; omega
    ·obtain rfl : k = 9 := by omega
     go_wp2
     go_ret3
     exact ⟨by first | (unfold Ty.numV; rw [HN.out, HPV.out]; rfl) | (unfold Ty.numV; rw [HN.out]; rfl), rfl⟩
 ·have HN := Lib.hid (Ty.num_cut H0.out Hb.out Hf.out (by rw [HL.out]; simp [Ty.after]; omega))
  go_enter Tryd.func92, Tryd.ntmps92
  go_wp2
  go_ret3
  exact ⟨by first | (unfold Ty.numV; rw [HN.out, HPV.out]; rfl) | (unfold Ty.numV; rw [HN.out]; rfl), rfl⟩
end Go.Proofs.YteaglaijkafphaaDoor
namespace Go.Proofs.YteaglaijkafphaaDoor
open Go.RowKit
set_option maxHeartbeats 400000 in
theorem Ty.number_c (s : ByteArray) (w : World) (h : Ty.Tabs w) (hs : s.size ≤ 9223372036854775807) :
 Calls Tryd.prog 92 #[.string s] w fun e w' => e = .returned (Ty.numV s.data.toList) ∧ w' = w := by
 by_cases h0 : 0 < s.size
 ·by_cases h1 : (s[0].toNat : Int) ≤ 192
  ·have hf : (s[0].toNat : Int) / 64 = 0 ∨ (s[0].toNat : Int) / 64 = 1 ∨ (s[0].toNat : Int) / 64 = 2 ∨ (s[0].toNat : Int) / 64 = 3 := by omega
   rcases hf with hf | hf | hf | hf
   ·exact Ty.number_0 s w h hs h0 h1 hf
   ·exact Ty.number_1 s w h hs h0 h1 hf
   ·exact Ty.number_2 s w h hs h0 h1 hf
   ·exact Ty.number_3 s w h hs h0 h1 hf
  ·have hne : s.toList.isEmpty = false := Ty.isEmpty_pos s h0
   have HN := Lib.hid (Ty.num_high (l := s.data.toList) (by rw [Ty.length_data]; exact h0) (by rw [← Ty.at_getD s 0 h0]; omega))
   go_enter Tryd.func92, Tryd.ntmps92
   go_wp2
   go_ret3
   exact ⟨by unfold Ty.numV; rw [HN.out]; rfl, rfl⟩
 ·have hz : s.size = 0 := by omega
  have he : s.toList.isEmpty = true := by rw [ByteArray.toList_eq, Ty.isEmpty_zero s hz]; rfl
  have HN := Lib.hid (Ty.isEmpty_zero s hz)
  clear h0 hz
  go_enter Tryd.func92, Tryd.ntmps92
  go_wp2
  go_ret3
  exact ⟨by rw [HN.out]; rfl, rfl⟩
def Ty.S (l : List UInt8) : ByteArray := ⟨l.toArray⟩
theorem Ty.S_data (s : ByteArray) : Ty.S s.data.toList = s := rfl
theorem Ty.data_S (l : List UInt8) : (Ty.S l).data.toList = l := rfl
theorem Ty.size_S (l : List UInt8) : (Ty.S l).size = l.length := rfl
theorem Ty.extract_S (s : ByteArray) (a b : Nat) : s.extract a b = Ty.S ((s.data.toList.drop a).take (b - a)) := ByteArray.extract_mk s.data.toList a b
def Ty.txtV (l : List UInt8) (most : Int) : Value := .tuple #[.string (Ty.S (Ty.txt l most).1), .int .i64 (Ty.txt l most).2.1, .int .i64 (Ty.txt l most).2.2]
set_option maxHeartbeats 400000 in
theorem Ty.text_bad (s : ByteArray) (most : Int) (w : World) (h : Ty.Tabs w) (hs : s.size ≤ 9223372036854775807) (he : (Ty.num s.data.toList).2.2 ≠ 0) :
 Calls Tryd.prog 107 #[.string s, .int .i64 most] w fun e w' => e = .returned (Ty.txtV s.data.toList most) ∧ w' = w := by
 have HT := Lib.hid (Ty.txt_bad (most := most) he)
 have hb : (((Ty.num s.data.toList).2.2 : Int) != 0) = true := by rw [bne_iff_ne]; omega
 clear he
 go_enter Tryd.func107, Tryd.ntmps107
 go_wp2_with fail
 refine (Ty.number_c s _ h hs).mono ?_
 rintro e w' ⟨rfl, rfl⟩
 unfold Ty.numV
 go_wp2
 go_ret3
 exact ⟨by unfold Ty.txtV; rw [HT.out]; rfl, rfl⟩
theorem Ty.number_is (s : ByteArray) (w : World) (h : Ty.Tabs w) (hs : s.size ≤ 9223372036854775807) {n sz : Nat} (hn : Ty.num s.data.toList = (n, sz, 0)) :
 Calls Tryd.prog 92 #[.string s] w fun e w' => e = .returned (.tuple #[.int .u64 n, .int .i64 sz, .int .i64 0]) ∧ w' = w := by
 have := Ty.number_c s w h hs
 unfold Ty.numV at this
 rw [hn] at this
 exact this
set_option maxHeartbeats 400000 in
theorem Ty.text_good (s : ByteArray) (most : Int) (w : World) (h : Ty.Tabs w) (hs : s.size ≤ 9223372036854775807) (hm : -9223372036854775808 ≤ most ∧ most ≤ 9223372036854775807) {n sz : Nat} (hn : Ty.num s.data.toList = (n, sz, 0)) :
 Calls Tryd.prog 107 #[.string s, .int .i64 most] w fun e w' => e = .returned (Ty.txtV s.data.toList most) ∧ w' = w := by
 have hsz : sz ≤ s.size := by have := Ty.num_size s.data.toList; rw [hn, Ty.length_data] at this; exact this
 have HN := Lib.hid hn
 have e1 : (Ty.num s.data.toList).1 = n := by rw [hn]
 have e2 : (Ty.num s.data.toList).2.1 = sz := by rw [hn]
 have e3 : (Ty.num s.data.toList).2.2 = 0 := by rw [hn]
 obtain ⟨hm1, hm2⟩ := hm
 clear hn
 by_cases h1 : most < 0
 ·have HT := Lib.hid (Ty.txt_long e3 (.inl h1))
  clear e1 e2 e3
  go_enter Tryd.func107, Tryd.ntmps107
  go_wp2_with fail
  refine (Ty.number_is s _ h hs HN.out).mono ?_
  rintro e w' ⟨rfl, rfl⟩
  go_wp2
  go_ret3
  exact ⟨by unfold Ty.txtV; rw [HT.out]; rfl, rfl⟩
 ·by_cases h2 : most < (n : Int)
  ·have HT := Lib.hid (Ty.txt_long e3 (.inr (by rw [e1]; exact h2)))
   clear e1 e2 e3
   go_enter Tryd.func107, Tryd.ntmps107
   go_wp2_with fail
   refine (Ty.number_is s _ h hs HN.out).mono ?_
   rintro e w' ⟨rfl, rfl⟩
   go_wp2
   go_ret3
   exact ⟨by unfold Ty.txtV; rw [HT.out]; rfl, rfl⟩
  ·by_cases h3 : (s.size : Int) - (sz : Int) < (n : Int)
   ·have HT := Lib.hid (Ty.txt_short e3 (most := most) (by rw [e1]; omega) (by rw [e1, e2, Ty.length_data]; omega))
    clear e1 e2 e3
    go_enter Tryd.func107, Tryd.ntmps107
    go_wp2_with fail
    refine (Ty.number_is s _ h hs HN.out).mono ?_
    rintro e w' ⟨rfl, rfl⟩
    go_wp2
    go_ret3
    exact ⟨by unfold Ty.txtV; rw [HT.out]; rfl, rfl⟩
   ·have HT := Lib.hid (Ty.txt_whole e3 (most := most) (by rw [e1]; omega) (by rw [e1, e2, Ty.length_data]; omega))
    have E1 := Lib.hid e1
    have E2 := Lib.hid e2
    clear e1 e2 e3
    have hns : n ≤ s.size := by omega
    have hes : sz + n ≤ s.size := by omega
    go_enter Tryd.func107, Tryd.ntmps107
    go_wp2_with fail
    refine (Ty.number_is s _ h hs HN.out).mono ?_
    rintro e w' ⟨rfl, rfl⟩
    go_wp2
    go_ret3
    refine ⟨?_, rfl⟩
    unfold Ty.txtV
    rw [HT.out]
    simp only [E1.out, E2.out, Ty.extract_S, Nat.add_sub_cancel_left, Int.natCast_add]
    rfl
theorem Ty.text_r (s : ByteArray) (most : Int) (w : World) (h : Ty.Tabs w) (hs : s.size ≤ 9223372036854775807) (hm : -9223372036854775808 ≤ most ∧ most ≤ 9223372036854775807) :
 Calls Tryd.prog 107 #[.string s, .int .i64 most] w fun e w' => e = .returned (Ty.txtV s.data.toList most) ∧ w' = w := by
 by_cases he : (Ty.num s.data.toList).2.2 = 0
 ·exact Ty.text_good s most w h hs hm (n := (Ty.num s.data.toList).1) (sz := (Ty.num s.data.toList).2.1) (by rw [← he])
 ·exact Ty.text_bad s most w h hs he
end Go.Proofs.YteaglaijkafphaaDoor
namespace Go.Proofs.YteaglaijkafphaaDoor.Dk
open Go
abbrev Str := List UInt8
abbrev Dir := List (Str × Nat)
structure Ch where
 a : Str
 b : Str
 f : Int
structure D where
 files : List (Str × Nat)
 dir : Dir
 sure : Dir
 chg : List Ch
 room : Int
 halt : Int
 deny : Int
 calls : Nat
def okc (b : UInt8) : Bool := (97 ≤ b.toNat && b.toNat ≤ 122) || (48 ≤ b.toNat && b.toNat ≤ 57) || b.toNat == 46
def right (s : Str) : Bool := s.all okc && (1 ≤ s.length && s.length ≤ 12)
def lt (a b : Str) : Bool := Op.bytesLess a b
theorem lt_trans {a b c : Str} : lt a b = true → lt b c = true → lt a c = true := Kn.bl_trans a b c
theorem lt_ne {a b : Str} (h : lt a b = true) : a ≠ b := (Kn.bl_ne h).2
theorem lt_total {a b : Str} (h : lt a b = false) (n : a ≠ b) : lt b a = true := by
 rcases Kn.bl_total a b with g | g | g
 ·rw [lt, g] at h; cases h
 ·exact absurd g n
 ·exact g
def look (l : Dir) (s : Str) : Option Nat := (l.find? fun y => y.1 == s).map (·.2)
def wo (l : Dir) (s : Str) : Dir := l.filter fun y => y.1 != s
def wi (l : Dir) (x : Str × Nat) : Dir := (wo l x.1).takeWhile (fun y => lt y.1 x.1) ++ x :: (wo l x.1).dropWhile (fun y => lt y.1 x.1)
def Asc (l : Dir) : Prop := l.Pairwise fun x y => lt x.1 y.1 = true
theorem mem_wo {l : Dir} {s : Str} {y : Str × Nat} : y ∈ wo l s ↔ y ∈ l ∧ y.1 ≠ s := by
 unfold wo
 rw [List.mem_filter]
 simp
theorem mem_split (p : (Str × Nat) → Bool) (l : Dir) (y : Str × Nat) : y ∈ l ↔ y ∈ l.takeWhile p ∨ y ∈ l.dropWhile p := by
 conv => lhs; rw [← List.takeWhile_append_dropWhile (p := p) (l := l)]
 rw [List.mem_append]
theorem mem_wi {l : Dir} {x y : Str × Nat} : y ∈ wi l x ↔ y = x ∨ (y ∈ l ∧ y.1 ≠ x.1) := by
 unfold wi
 rw [List.mem_append, List.mem_cons, ← mem_wo, mem_split (fun y => lt y.1 x.1) (wo l x.1) y]
 constructor
 ·rintro (h | h | h)
  ·exact .inr (.inl h)
  ·exact .inl h
  ·exact .inr (.inr h)
 ·rintro (h | h | h)
  ·exact .inr (.inl h)
  ·exact .inl h
  ·exact .inr (.inr h)
theorem asc_wo {l : Dir} (h : Asc l) (s : Str) : Asc (wo l s) := List.Pairwise.filter _ h
theorem asc_drop {l : Dir} (h : Asc l) (x : Str) (hx : ∀ y ∈ l, y.1 ≠ x) : ∀ y ∈ l.dropWhile (fun y => lt y.1 x), lt x y.1 = true := by
 induction l with
 | nil => simp
 | cons a l ih =>
   rw [Asc, List.pairwise_cons] at h
   by_cases hl : lt a.1 x = true
   ·rw [List.dropWhile_cons_of_pos (p := fun y : Str × Nat => lt y.1 x) hl]
    exact ih h.2 fun y hy => hx y (List.mem_cons_of_mem _ hy)
   ·rw [List.dropWhile_cons_of_neg (p := fun y : Str × Nat => lt y.1 x) hl]
    have ha := lt_total (by simpa using hl) (hx a List.mem_cons_self)
    intro y hy
    rcases List.mem_cons.1 hy with rfl | hy
    ·exact ha
    ·exact lt_trans ha (h.1 y hy)
theorem take_lt (p : (Str × Nat) → Bool) (l : Dir) : ∀ y ∈ l.takeWhile p, p y = true := by
 induction l with
 | nil => simp
 | cons a l ih =>
   by_cases ha : p a = true
   ·rw [List.takeWhile_cons_of_pos ha]
    intro y hy
    rcases List.mem_cons.1 hy with rfl | hy
    ·exact ha
    ·exact ih y hy
   ·rw [List.takeWhile_cons_of_neg ha]
    simp
theorem asc_wi {l : Dir} (h : Asc l) (x : Str × Nat) : Asc (wi l x) := by
 have hw := asc_wo h x.1
 have hd := asc_drop hw x.1 fun y hy => (mem_wo.1 hy).2
 have ht := take_lt (fun y => lt y.1 x.1) (wo l x.1)
 unfold wi Asc
 rw [List.pairwise_append]
 refine ⟨hw.sublist (List.takeWhile_sublist _), ?_, ?_⟩
 ·rw [List.pairwise_cons]
  exact ⟨hd, hw.sublist (List.dropWhile_sublist _)⟩
 ·intro a ha b hb
  have h1 := ht a ha
  rcases List.mem_cons.1 hb with rfl | hb
  ·exact h1
  ·exact lt_trans h1 (hd b hb)
theorem asc_inj {l : Dir} (h : Asc l) {x y : Str × Nat} (hx : x ∈ l) (hy : y ∈ l) (e : x.1 = y.1) : x = y := by
 induction l with
 | nil => cases hx
 | cons a l ih =>
   rw [Asc, List.pairwise_cons] at h
   rcases List.mem_cons.1 hx with gx | gx <;> rcases List.mem_cons.1 hy with gy | gy
   ·rw [gx, gy]
   ·exact absurd e (by rw [gx]; exact lt_ne (h.1 y gy))
   ·exact absurd e.symm (by rw [gy]; exact lt_ne (h.1 x gx))
   ·exact ih h.2 gx gy
theorem look_some {l : Dir} (h : Asc l) {s : Str} {f : Nat} : look l s = some f ↔ (s, f) ∈ l := by
 unfold look
 constructor
 ·intro e
  cases hf : l.find? fun y => y.1 == s with
  | none => rw [hf] at e; cases e
  | some y =>
    rw [hf] at e
    have h1 := List.mem_of_find?_eq_some hf
    have h2 := List.find?_some hf
    simp only [beq_iff_eq] at h2
    simp only [Option.map_some, Option.some.injEq] at e
    rw [← h2, ← e]
    exact h1
 ·intro hm
  cases hf : l.find? fun y => y.1 == s with
  | none =>
    have := List.find?_eq_none.1 hf _ hm
    simp at this
  | some y =>
    have h1 := List.mem_of_find?_eq_some hf
    have h2 := List.find?_some hf
    simp only [beq_iff_eq] at h2
    rw [asc_inj h h1 hm h2]
    rfl
theorem len_wo (l : Dir) (s : Str) : (wo l s).length ≤ l.length := List.length_filter_le _ _
theorem len_wi (l : Dir) (x : Str × Nat) : (wi l x).length ≤ l.length + 1 := by
 have := len_wo l x.1
 have e : ((wo l x.1).takeWhile (fun y => lt y.1 x.1)).length + ((wo l x.1).dropWhile (fun y => lt y.1 x.1)).length = (wo l x.1).length := by
  rw [← List.length_append, List.takeWhile_append_dropWhile]
 unfold wi
 rw [List.length_append, List.length_cons]
 omega
def apply (l : Dir) (c : Ch) : Dir :=
 if c.b ≠ [] then (match look l c.a with | none => l | some f => wi (wo l c.a) (c.b, f))
 else if c.f < 0 then wo l c.a else wi l (c.a, c.f.toNat)
def Ok (n : Nat) (l : Dir) (c : Ch) : Prop :=
 if c.b ≠ [] then ∃ f, look l c.a = some f ∧ c.a ≠ c.b
 else if c.f < 0 then ∃ f, look l c.a = some f else look l c.a = none ∧ c.f.toNat < n ∧ ∀ y ∈ l, y.2 ≠ c.f.toNat
structure Well (n : Nat) (l : Dir) : Prop where
 asc : Asc l
 one : (l.map (·.2)).Nodup
 lim : ∀ y ∈ l, y.2 < n
theorem Well.mono {n m : Nat} {l : Dir} (h : Well n l) (hm : n ≤ m) : Well m l := ⟨h.asc, h.one, fun y hy => Nat.lt_of_lt_of_le (h.lim y hy) hm⟩
theorem Well.nil (n : Nat) : Well n [] := ⟨List.Pairwise.nil, List.nodup_nil, by simp⟩
theorem Well.wo {n : Nat} {l : Dir} (h : Well n l) (s : Str) : Well n (wo l s) :=
 ⟨asc_wo h.asc s, h.one.sublist ((List.filter_sublist (p := fun y : Str × Nat => y.1 != s) (l := l)).map _), fun y hy => h.lim y (mem_wo.1 hy).1⟩
theorem perm_wi (l : Dir) (x : Str × Nat) : (wi l x).Perm (x :: Dk.wo l x.1) := by
 have h : (wi l x).Perm (x :: ((Dk.wo l x.1).takeWhile (fun y => lt y.1 x.1) ++ (Dk.wo l x.1).dropWhile (fun y => lt y.1 x.1))) := List.perm_middle
 rwa [List.takeWhile_append_dropWhile] at h
theorem Well.wi {n : Nat} {l : Dir} (h : Well n l) (x : Str × Nat) (hx : x.2 < n) (hf : ∀ y ∈ Dk.wo l x.1, y.2 ≠ x.2) : Well n (wi l x) := by
 refine ⟨asc_wi h.asc x, ?_, fun y hy => ?_⟩
 ·have hp := (perm_wi l x).map (fun y : Str × Nat => y.2)
  rw [hp.nodup_iff, List.map_cons, List.nodup_cons]
  refine ⟨fun hm => ?_, (h.wo x.1).one⟩
  obtain ⟨y, hy, e⟩ := List.mem_map.1 hm
  exact hf y hy e
 ·rcases mem_wi.1 hy with rfl | ⟨hy, _⟩
  ·exact hx
  ·exact h.lim y hy
theorem Well.inj {n : Nat} {l : Dir} (h : Well n l) {x y : Str × Nat} (hx : x ∈ l) (hy : y ∈ l) (e : x.2 = y.2) : x = y := by
 have h1 := h.one
 induction l with
 | nil => cases hx
 | cons a l ih =>
   rw [List.map_cons, List.nodup_cons] at h1
   have ha := h.asc
   rw [Asc, List.pairwise_cons] at ha
   rcases List.mem_cons.1 hx with gx | gx <;> rcases List.mem_cons.1 hy with gy | gy
   ·rw [gx, gy]
   ·exact absurd (List.mem_map.2 ⟨y, gy, by rw [← gx]; exact e.symm⟩) h1.1
   ·exact absurd (List.mem_map.2 ⟨x, gx, by rw [← gy]; exact e⟩) h1.1
   ·exact ih ⟨ha.2, h1.2, fun y hy => h.lim y (List.mem_cons_of_mem _ hy)⟩ gx gy h1.2
theorem Well.apply {n : Nat} {l : Dir} (h : Well n l) {c : Ch} (hc : Ok n l c) : Well n (apply l c) := by
 unfold Ok at hc
 unfold Dk.apply
 by_cases hb : c.b ≠ []
 ·rw [if_pos hb] at hc ⊢
  obtain ⟨f, hf, hne⟩ := hc
  rw [hf]
  have hm := (look_some h.asc).1 hf
  refine (h.wo c.a).wi (c.b, f) (h.lim (c.a, f) hm) fun y hy e => ?_
  have h1 := mem_wo.1 hy
  have h2 := mem_wo.1 h1.1
  exact h2.2 (congrArg Prod.fst (h.inj h2.1 hm e))
 ·rw [if_neg hb] at hc ⊢
  by_cases hf : c.f < 0
  ·rw [if_pos hf]; exact h.wo _
  ·rw [if_neg hf] at hc ⊢
   exact h.wi _ hc.2.1 fun y hy => hc.2.2 y (mem_wo.1 hy).1
theorem len_apply (l : Dir) (c : Ch) : (apply l c).length ≤ l.length + 1 := by
 unfold apply
 split
 ·split
  ·omega
  ·next f _ =>
   have := len_wo l c.a
   have := len_wi (wo l c.a) (c.b, f)
   omega
 ·split
  ·have := len_wo l c.a; omega
  ·exact len_wi _ _
def Chain (n : Nat) : Dir → List Ch → Dir → Prop
 | l, [], d => l = d
 | l, c :: cs, d => Ok n l c ∧ Chain n (apply l c) cs d
def fold (l : Dir) (cs : List Ch) : Dir := cs.foldl apply l
theorem Chain.fold {n : Nat} : ∀ {l : Dir} {cs : List Ch} {d : Dir}, Chain n l cs d → d = Dk.fold l cs
 | _, [], _, h => h.symm
 | _, _ :: _, _, h => by
   have := Chain.fold h.2
   exact this
theorem Ok.mono {n m : Nat} {l : Dir} {c : Ch} (h : Ok n l c) (hm : n ≤ m) : Ok m l c := by
 unfold Ok at h ⊢
 split
 ·next hb => rwa [if_pos hb] at h
 ·next hb =>
  rw [if_neg hb] at h
  split
  ·next hf => rwa [if_pos hf] at h
  ·next hf => rw [if_neg hf] at h; exact ⟨h.1, by omega, h.2.2⟩
theorem Chain.mono {n m : Nat} (hm : n ≤ m) : ∀ {l : Dir} {cs : List Ch} {d : Dir}, Chain n l cs d → Chain m l cs d
 | _, [], _, h => h
 | _, _ :: _, _, h => ⟨h.1.mono hm, Chain.mono hm h.2⟩
theorem Chain.snoc {n : Nat} {c : Ch} : ∀ {l : Dir} {cs : List Ch} {d : Dir}, Chain n l cs d → Ok n d c → Chain n l (cs ++ [c]) (apply d c)
 | _, [], _, h, hc => by
   cases h
   exact ⟨hc, rfl⟩
 | _, _ :: _, _, h, hc => ⟨h.1, Chain.snoc h.2 hc⟩
theorem Chain.take {n : Nat} : ∀ {l : Dir} {cs : List Ch} {d : Dir} (k : Nat), Chain n l cs d → Chain n l (cs.take k) (Dk.fold l (cs.take k))
 | _, [], _, k, h => by rw [List.take_nil]; rfl
 | _, _ :: _, _, 0, h => rfl
 | _, c :: cs, _, k + 1, h => ⟨h.1, Chain.take k h.2⟩
theorem Chain.well {n : Nat} : ∀ {l : Dir} {cs : List Ch} {d : Dir}, Well n l → Chain n l cs d → Well n d
 | _, [], _, hw, h => by cases h; exact hw
 | _, _ :: _, _, hw, h => Chain.well (hw.apply h.1) h.2
theorem len_fold : ∀ (cs : List Ch) (l : Dir), (fold l cs).length ≤ l.length + cs.length
 | [], l => by simp [fold]
 | c :: cs, l => by
   have h1 := len_fold cs (apply l c)
   have h2 := len_apply l c
   rw [List.length_cons]
   have : fold l (c :: cs) = fold (apply l c) cs := rfl
   rw [this]
   omega
structure Inv (d : D) : Prop where
 chain : Chain d.files.length d.sure d.chg d.dir
 well : Well d.files.length d.sure
 part : ∀ x ∈ d.files, x.2 ≤ x.1.length
theorem Inv.dir {d : D} (h : Inv d) : Well d.files.length d.dir := h.chain.well h.well
def size (fs : List (Str × Nat)) : Nat := (fs.map fun x => x.1.length).sum
structure Sz (n : Nat) (d : D) : Prop where
 files : d.files.length ≤ n
 dirs : d.sure.length + d.chg.length ≤ n
 bytes : size d.files ≤ n * 1048576
 calls : d.calls ≤ n
theorem Sz.dir {n : Nat} {d : D} (h : Sz n d) (hi : Inv d) : d.dir.length ≤ n := by
 have := len_fold d.chg d.sure
 rw [← hi.chain.fold] at this
 have := h.dirs
 omega
theorem Sz.mono {n m : Nat} {d : D} (h : Sz n d) (hm : n ≤ m) : Sz m d :=
 ⟨Nat.le_trans h.files hm, Nat.le_trans h.dirs hm, Nat.le_trans h.bytes (Nat.mul_le_mul_right _ hm), Nat.le_trans h.calls hm⟩
end Go.Proofs.YteaglaijkafphaaDoor.Dk
namespace Go.Proofs.YteaglaijkafphaaDoor.Dk
open Go
def file (fs : List (Str × Nat)) (f : Nat) : Str × Nat := fs.getD f ([], 0)
def heldL (fs : List (Str × Nat)) (l : Dir) : Nat := (l.map fun y => (file fs y.2).1.length).sum
def held (d : D) : Nat := heldL d.files d.dir
def callE (d : D) : Nat := if 0 ≤ d.halt ∧ d.halt ≤ (d.calls : Int) then 11 else if (d.calls : Int) = d.deny then 9 else 0
def tick (d : D) : D := { d with calls := d.calls + 1 }
def change (d : D) (c : Ch) : D := { d with dir := apply d.dir c, chg := d.chg ++ [c] }
def grow (d : D) : D := { d with files := d.files ++ [([], 0)] }
def put (d : D) (f : Nat) (x : Str × Nat) : D := { d with files := d.files.set f x }
def create (d : D) (n : Str) : D × Nat :=
 if callE d ≠ 0 then (tick d, callE d) else if right n = false ∨ look d.dir n ≠ none then (tick d, 12)
 else (change (grow (tick d)) ⟨n, [], (d.files.length : Int)⟩, 0)
def append (d : D) (n s : Str) : D × Nat :=
 if callE d ≠ 0 then (tick d, callE d) else match look d.dir n with
 | none => (tick d, 12)
 | some f => if d.room - (held d : Int) < (s.length : Int) then (tick d, 10) else (put (tick d) f ((file d.files f).1 ++ s, (file d.files f).2), 0)
def sync (d : D) (n : Str) : D × Nat :=
 if callE d ≠ 0 then (tick d, callE d) else match look d.dir n with
 | none => (tick d, 12)
 | some f => (put (tick d) f ((file d.files f).1, (file d.files f).1.length), 0)
def rename (d : D) (a b : Str) : D × Nat :=
 if callE d ≠ 0 then (tick d, callE d) else if look d.dir a = none ∨ right b = false ∨ a = b then (tick d, 12) else (change (tick d) ⟨a, b, 0⟩, 0)
def remove (d : D) (n : Str) : D × Nat :=
 if callE d ≠ 0 then (tick d, callE d) else if look d.dir n = none then (tick d, 12) else (change (tick d) ⟨n, [], -1⟩, 0)
def syncDir (d : D) : D × Nat :=
 if callE d ≠ 0 then (tick d, callE d) else ({ tick d with sure := d.dir, chg := [] }, 0)
def space (d : D) (n : Int) : D := { d with room := max n 0 }
def later (d : D) (n : Int) : Int := if n < 0 ∨ 1099511627776 < n then -1 else (d.calls : Int) + n
def stop (d : D) (n : Int) : D := { d with halt := later d n }
def refuse (d : D) (n : Int) : D := { d with deny := later d n }
def keepAt (keep : List Int) (i : Nat) : Int := if keep = [] then 0 else max (keep.getD (i % keep.length) 0) 0
def cutN (x : Str × Nat) (k : Int) : Nat := x.2 + min k.toNat (x.1.length - x.2)
def cut (fs : List (Str × Nat)) (f : Nat) (k : Int) : List (Str × Nat) := fs.set f ((file fs f).1.take (cutN (file fs f) k), cutN (file fs f) k)
def cuts (keep : List Int) : Nat → List (Str × Nat) → Dir → List (Str × Nat)
 | _, fs, [] => fs
 | i, fs, y :: l => cuts keep (i + 1) (cut fs y.2 (keepAt keep i)) l
def crashDir (d : D) (n : Int) : Dir := fold d.sure (d.chg.take n.toNat)
def crash (d : D) (n : Int) (keep : List Int) : D :=
 { d with files := cuts keep 0 d.files (crashDir d n), dir := crashDir d n, sure := crashDir d n, chg := [], halt := -1, deny := -1 }
def read (d : D) (n : Str) : Str × Nat := match look d.dir n with | none => ([], 12) | some f => ((file d.files f).1, 0)
def names (d : D) : List Str := d.dir.map (·.1)
structure Op where
 kind : Nat
 a : Str
 b : Str
 n : Int
 keep : List Int
def step (d : D) (o : Op) : D × Nat :=
 if o.kind = 0 then create d o.a else if o.kind = 1 then append d o.a o.b else if o.kind = 2 then sync d o.a else if o.kind = 3 then rename d o.a o.b
 else if o.kind = 4 then remove d o.a else if o.kind = 5 then syncDir d else if o.kind = 6 then (space d o.n, 0) else if o.kind = 7 then (stop d o.n, 0)
 else if o.kind = 8 then (refuse d o.n, 0) else (crash d o.n o.keep, 0)
theorem file_set (fs : List (Str × Nat)) (f g : Nat) (x : Str × Nat) (hf : f < fs.length) : file (fs.set f x) g = if f = g then x else file fs g := by
 unfold file
 rw [List.getD, List.getD, List.getElem?_set]
 by_cases h : f = g
 ·rw [if_pos h, if_pos h, if_pos hf]; rfl
 ·rw [if_neg h, if_neg h]
theorem getD_lt {fs : List (Str × Nat)} {f : Nat} (h : f < fs.length) : fs.getD f ([], 0) = fs[f] := by
 rw [List.getD, List.getElem?_eq_getElem h]
 rfl
theorem file_mem {fs : List (Str × Nat)} {f : Nat} (h : f < fs.length) : file fs f ∈ fs := by
 unfold file
 rw [getD_lt h]
 exact List.getElem_mem h
theorem mem_set {fs : List (Str × Nat)} {f : Nat} {x y : Str × Nat} (h : y ∈ fs.set f x) : y = x ∨ y ∈ fs := by
 rcases List.mem_or_eq_of_mem_set h with h | h
 ·exact .inr h
 ·exact .inl h
theorem size_set (fs : List (Str × Nat)) : ∀ (f : Nat) (x : Str × Nat), f < fs.length → size (fs.set f x) + (file fs f).1.length = size fs + x.1.length := by
 induction fs with
 | nil => intro f x h; simp at h
 | cons a fs ih =>
   intro f x h
   cases f with
   | zero =>
     have : file (a :: fs) 0 = a := rfl
     rw [this, List.set_cons_zero]
     simp only [size, List.map_cons, List.sum_cons]
     omega
   | succ f =>
     have e : file (a :: fs) (f + 1) = file fs f := rfl
     have := ih f x (by simpa using h)
     rw [e, List.set_cons_succ]
     simp only [size, List.map_cons, List.sum_cons] at this ⊢
     omega
theorem size_snoc (fs : List (Str × Nat)) (x : Str × Nat) : size (fs ++ [x]) = size fs + x.1.length := by
 simp [size]
theorem Inv.tick {d : D} (h : Inv d) : Inv (tick d) := ⟨h.chain, h.well, h.part⟩
theorem Sz.tick {n : Nat} {d : D} (h : Sz n d) : Sz (n + 1) (tick d) :=
 ⟨Nat.le_succ_of_le h.files, Nat.le_succ_of_le h.dirs, Nat.le_trans h.bytes (Nat.mul_le_mul_right _ (Nat.le_succ _)), Nat.succ_le_succ h.calls⟩
theorem Inv.change {d : D} (h : Inv d) {c : Ch} (hc : Ok d.files.length d.dir c) : Inv (change d c) := ⟨h.chain.snoc hc, h.well, h.part⟩
theorem Inv.grow {d : D} (h : Inv d) : Inv (grow d) := by
 have hl : d.files.length ≤ (d.files ++ [(([] : Str), 0)]).length := by simp
 refine ⟨h.chain.mono hl, h.well.mono hl, fun x hx => ?_⟩
 rcases List.mem_append.1 hx with hx | hx
 ·exact h.part x hx
 ·rw [List.mem_singleton.1 hx]; exact Nat.le_refl _
theorem Inv.put {d : D} (h : Inv d) (f : Nat) {x : Str × Nat} (hx : x.2 ≤ x.1.length) : Inv (put d f x) := by
 have hl : (d.files.set f x).length = d.files.length := List.length_set
 refine ⟨?_, ?_, fun y hy => ?_⟩
 ·show Chain (d.files.set f x).length _ _ _
  rw [hl]; exact h.chain
 ·show Well (d.files.set f x).length _
  rw [hl]; exact h.well
 ·rcases mem_set hy with rfl | hy
  ·exact hx
  ·exact h.part y hy
theorem Inv.dirlt {d : D} (h : Inv d) {n : Str} {f : Nat} (hf : look d.dir n = some f) : f < d.files.length := h.dir.lim _ ((look_some h.dir.asc).1 hf)
theorem Inv.file {d : D} (h : Inv d) (f : Nat) : (file d.files f).2 ≤ (file d.files f).1.length := by
 by_cases hf : f < d.files.length
 ·exact h.part _ (file_mem hf)
 ·unfold Dk.file
  rw [List.getD, List.getElem?_eq_none (by omega)]
  exact Nat.le_refl _
theorem right_ne {b : Str} (h : right b ≠ false) : b ≠ [] := fun e => by rw [e] at h; exact h rfl
theorem Inv.create {d : D} (h : Inv d) (n : Str) : Inv (create d n).1 := by
 unfold Dk.create
 split
 ·exact h.tick
 ·split
  ·exact h.tick
  ·next hn =>
   refine Inv.change h.tick.grow ?_
   have h2 : look d.dir n = none := by
    cases hl : look d.dir n with
    | none => rfl
    | some f => exact absurd (Or.inr (by rw [hl]; simp)) hn
   unfold Ok
   rw [if_neg (by simp), if_neg (by simp)]
   refine ⟨h2, ?_, fun y hy e => ?_⟩
   ·show (Int.toNat (d.files.length : Int)) < (d.files ++ [(([] : Str), 0)]).length
    simp
   ·have h3 := h.dir.lim y hy
    simp only [Int.toNat_natCast] at e
    omega
set_option maxRecDepth 100000 in
theorem Sz.create {k : Nat} {d : D} (h : Sz k d) (n : Str) : Sz (k + 1) (create d n).1 := by
 unfold Dk.create
 split
 ·exact h.tick
 ·split
  ·exact h.tick
  ·have := h.files
   have := h.dirs
   have := h.bytes
   have := h.calls
   refine ⟨?_, ?_, ?_, ?_⟩
   ·show (d.files ++ [(([] : Str), 0)]).length ≤ _
    simp; omega
   ·show d.sure.length + (d.chg ++ [_]).length ≤ _
    simp; omega
   ·exact Nat.le_trans (Nat.le_of_eq (size_snoc d.files ([], 0))) (Nat.le_trans h.bytes (Nat.mul_le_mul_right _ (Nat.le_succ k)))
   ·show d.calls + 1 ≤ _
    omega
theorem Inv.append {d : D} (h : Inv d) (n s : Str) : Inv (append d n s).1 := by
 unfold Dk.append
 split
 ·exact h.tick
 ·split
  ·exact h.tick
  ·next f hf =>
   split
   ·exact h.tick
   ·refine Inv.put h.tick f ?_
    have := h.file f
    rw [List.length_append]
    omega
set_option maxRecDepth 100000 in
theorem Sz.put {k : Nat} {d : D} (h : Sz k d) {f : Nat} {x : Str × Nat} (hf : f < d.files.length) (hx : x.1.length ≤ (file d.files f).1.length + 1048576) : Sz (k + 1) (Dk.put (Dk.tick d) f x) := by
 have := h.files
 have := h.dirs
 have := h.bytes
 have := h.calls
 refine ⟨?_, ?_, ?_, ?_⟩
 ·show (d.files.set f x).length ≤ _
  rw [List.length_set]; omega
 ·show d.sure.length + d.chg.length ≤ _
  omega
 ·show size (d.files.set f x) ≤ _
  have := size_set d.files f x hf
  omega
 ·show d.calls + 1 ≤ _
  omega
theorem Sz.append {k : Nat} {d : D} (h : Sz k d) (hi : Inv d) (n s : Str) (hs : s.length ≤ 1048576) : Sz (k + 1) (append d n s).1 := by
 unfold Dk.append
 split
 ·exact h.tick
 ·split
  ·exact h.tick
  ·next f hf =>
   split
   ·exact h.tick
   ·exact h.put (hi.dirlt hf) (by rw [List.length_append]; omega)
theorem Inv.sync {d : D} (h : Inv d) (n : Str) : Inv (sync d n).1 := by
 unfold Dk.sync
 split
 ·exact h.tick
 ·split
  ·exact h.tick
  ·next f hf => exact Inv.put h.tick f (Nat.le_refl _)
theorem Sz.sync {k : Nat} {d : D} (h : Sz k d) (hi : Inv d) (n : Str) : Sz (k + 1) (sync d n).1 := by
 unfold Dk.sync
 split
 ·exact h.tick
 ·split
  ·exact h.tick
  ·next f hf => exact h.put (hi.dirlt hf) (Nat.le_add_right _ _)
theorem Inv.rename {d : D} (h : Inv d) (a b : Str) : Inv (rename d a b).1 := by
 unfold Dk.rename
 split
 ·exact h.tick
 ·split
  ·exact h.tick
  ·next hn =>
   refine Inv.change h.tick ?_
   unfold Ok
   rw [if_pos (right_ne fun e => hn (.inr (.inl e)))]
   cases hl : look d.dir a with
   | none => exact absurd (Or.inl hl) hn
   | some f => exact ⟨f, hl, fun e => hn (.inr (.inr e))⟩
set_option maxRecDepth 100000 in
theorem Sz.change {k : Nat} {d : D} (h : Sz k d) (c : Ch) : Sz (k + 1) (Dk.change (Dk.tick d) c) := by
 have := h.files
 have := h.dirs
 have := h.bytes
 have := h.calls
 refine ⟨?_, ?_, ?_, ?_⟩
 ·show d.files.length ≤ _
  omega
 ·show d.sure.length + (d.chg ++ [c]).length ≤ _
  simp; omega
 ·exact Nat.le_trans h.bytes (Nat.mul_le_mul_right _ (Nat.le_succ k))
 ·show d.calls + 1 ≤ _
  omega
theorem Sz.rename {k : Nat} {d : D} (h : Sz k d) (a b : Str) : Sz (k + 1) (rename d a b).1 := by
 unfold Dk.rename
 split
 ·exact h.tick
 ·split
  ·exact h.tick
  ·exact h.change _
theorem Inv.remove {d : D} (h : Inv d) (n : Str) : Inv (remove d n).1 := by
 unfold Dk.remove
 split
 ·exact h.tick
 ·split
  ·exact h.tick
  ·next hn =>
   refine Inv.change h.tick ?_
   unfold Ok
   rw [if_neg (by simp), if_pos (by simp)]
   cases hl : look d.dir n with
   | none => exact absurd hl hn
   | some f => exact ⟨f, hl⟩
theorem Sz.remove {k : Nat} {d : D} (h : Sz k d) (n : Str) : Sz (k + 1) (remove d n).1 := by
 unfold Dk.remove
 split
 ·exact h.tick
 ·split
  ·exact h.tick
  ·exact h.change _
theorem Inv.syncDir {d : D} (h : Inv d) : Inv (syncDir d).1 := by
 unfold Dk.syncDir
 split
 ·exact h.tick
 ·exact ⟨rfl, h.dir, h.part⟩
theorem Sz.syncDir {k : Nat} {d : D} (h : Sz k d) (hi : Inv d) : Sz (k + 1) (syncDir d).1 := by
 unfold Dk.syncDir
 split
 ·exact h.tick
 ·have := h.dir hi
  have := h.tick
  exact ⟨this.files, by show d.dir.length + 0 ≤ _; omega, this.bytes, this.calls⟩
theorem length_cuts (keep : List Int) : ∀ (l : Dir) (i : Nat) (fs : List (Str × Nat)), (cuts keep i fs l).length = fs.length
 | [], _, _ => rfl
 | y :: l, i, fs => by
   have := length_cuts keep l (i + 1) (cut fs y.2 (keepAt keep i))
   rw [show cuts keep i fs (y :: l) = cuts keep (i + 1) (cut fs y.2 (keepAt keep i)) l from rfl, this]
   exact List.length_set
structure Left (x y : Str × Nat) : Prop where
 take : y.1 = x.1.take y.1.length
 le : y.1.length ≤ x.1.length
 least : x.2 ≤ y.1.length
 sure : x.2 ≤ y.2
 part : y.2 ≤ y.1.length
theorem Left.refl {x : Str × Nat} (h : x.2 ≤ x.1.length) : Left x x := ⟨by rw [List.take_length], Nat.le_refl _, h, Nat.le_refl _, h⟩
theorem Left.trans {x y z : Str × Nat} (h : Left x y) (g : Left y z) : Left x z :=
 ⟨by
  have h1 := g.take
  rw [h.take, List.take_take, Nat.min_eq_left g.le] at h1
  exact h1, Nat.le_trans g.le h.le, by have := g.least; have := h.sure; omega, Nat.le_trans h.sure g.sure, g.part⟩
theorem cut_left {x : Str × Nat} (h : x.2 ≤ x.1.length) (k : Int) : Left x (x.1.take (cutN x k), cutN x k) := by
 have hn : cutN x k ≤ x.1.length ∧ x.2 ≤ cutN x k := by unfold cutN; omega
 have hl : (x.1.take (cutN x k)).length = cutN x k := by rw [List.length_take]; omega
 exact ⟨by show _ = _; rw [hl], by show (x.1.take (cutN x k)).length ≤ _; omega, by show _ ≤ (x.1.take (cutN x k)).length; omega, hn.2, by show _ ≤ (x.1.take (cutN x k)).length; omega⟩
theorem cuts_left (keep : List Int) : ∀ (l : Dir) (i : Nat) (fs : List (Str × Nat)), (∀ f, (file fs f).2 ≤ (file fs f).1.length) → (∀ y ∈ l, y.2 < fs.length) →
 (∀ f, Left (file fs f) (file (cuts keep i fs l) f)) ∧ ∀ y ∈ l, (file (cuts keep i fs l) y.2).2 = (file (cuts keep i fs l) y.2).1.length := by
 intro l
 induction l with
 | nil => exact fun i fs h _ => ⟨fun f => Left.refl (h f), by simp⟩
 | cons a l ih =>
   intro i fs h hl
   have hc : ∀ f, Left (file fs f) (file (cut fs a.2 (keepAt keep i)) f) := fun f => by
    unfold cut
    rw [file_set _ _ _ _ (hl a List.mem_cons_self)]
    by_cases e : a.2 = f
    ·rw [if_pos e, e]; exact cut_left (h f) _
    ·rw [if_neg e]; exact Left.refl (h f)
   obtain ⟨h1, h2⟩ := ih (i + 1) (cut fs a.2 (keepAt keep i)) (fun f => (hc f).part) (fun y hy => by unfold cut; rw [List.length_set]; exact hl y (List.mem_cons_of_mem _ hy))
   refine ⟨fun f => (hc f).trans (h1 f), fun y hy => ?_⟩
   rcases List.mem_cons.1 hy with rfl | hy
   ·have h3 := h1 y.2
    have h4 : (file (cut fs y.2 (keepAt keep i)) y.2).2 = (file (cut fs y.2 (keepAt keep i)) y.2).1.length := by
     unfold cut
     rw [file_set _ _ _ _ (hl y List.mem_cons_self), if_pos rfl]
     rw [List.length_take]
     have := h y.2
     unfold cutN
     omega
    have := h3.sure
    have := h3.part
    have := h3.le
    show (file (cuts keep (i + 1) (cut fs y.2 (keepAt keep i)) l) y.2).2 = (file (cuts keep (i + 1) (cut fs y.2 (keepAt keep i)) l) y.2).1.length
    omega
   ·exact h2 y hy
theorem size_le {fs gs : List (Str × Nat)} (hl : fs.length = gs.length) (h : ∀ f, (file fs f).1.length ≤ (file gs f).1.length) : size fs ≤ size gs := by
 induction fs generalizing gs with
 | nil => exact Nat.zero_le _
 | cons a fs ih =>
   cases gs with
   | nil => simp at hl
   | cons b gs =>
     have h0 : a.1.length ≤ b.1.length := h 0
     have := ih (gs := gs) (by simpa using hl) fun f => h (f + 1)
     simp only [size, List.map_cons, List.sum_cons] at this ⊢
     omega
theorem Inv.crashDir {d : D} (h : Inv d) (n : Int) : Well d.files.length (Dk.crashDir d n) := (h.chain.take n.toNat).well h.well
theorem Inv.crash {d : D} (h : Inv d) (n : Int) (keep : List Int) : Inv (Dk.crash d n keep) := by
 have hw := h.crashDir n
 obtain ⟨h1, _⟩ := cuts_left keep (Dk.crashDir d n) 0 d.files h.file hw.lim
 have hl := length_cuts keep (Dk.crashDir d n) 0 d.files
 refine ⟨rfl, ?_, fun x hx => ?_⟩
 ·show Well (cuts keep 0 d.files (Dk.crashDir d n)).length (Dk.crashDir d n)
  rw [hl]; exact hw
 ·obtain ⟨f, hf, e⟩ := List.getElem_of_mem hx
  have := (h1 f).part
  have e2 : Dk.file (cuts keep 0 d.files (Dk.crashDir d n)) f = x := by
   exact (getD_lt (fs := cuts keep 0 d.files (Dk.crashDir d n)) hf).trans e
  rwa [e2] at this
set_option maxRecDepth 100000 in
theorem Sz.crash {k : Nat} {d : D} (h : Sz k d) (hi : Inv d) (n : Int) (keep : List Int) : Sz k (Dk.crash d n keep) := by
 have hl := length_cuts keep (Dk.crashDir d n) 0 d.files
 obtain ⟨h1, _⟩ := cuts_left keep (Dk.crashDir d n) 0 d.files hi.file (hi.crashDir n).lim
 have hlen := len_fold (d.chg.take n.toNat) d.sure
 have := h.dirs
 have := h.bytes
 have hs := size_le hl fun f => (h1 f).le
 refine ⟨?_, ?_, ?_, h.calls⟩
 ·show (cuts keep 0 d.files (Dk.crashDir d n)).length ≤ k
  rw [hl]; exact h.files
 ·show (Dk.crashDir d n).length + 0 ≤ k
  rw [List.length_take] at hlen
  unfold Dk.crashDir
  omega
 ·show size (cuts keep 0 d.files (Dk.crashDir d n)) ≤ _
  omega
theorem Inv.step {d : D} (h : Inv d) (o : Op) : Inv (step d o).1 := by
 unfold Dk.step
 repeat' split
 ·exact h.create _
 ·exact h.append _ _
 ·exact h.sync _
 ·exact h.rename _ _
 ·exact h.remove _
 ·exact h.syncDir
 ·exact ⟨h.chain, h.well, h.part⟩
 ·exact ⟨h.chain, h.well, h.part⟩
 ·exact ⟨h.chain, h.well, h.part⟩
 ·exact h.crash _ _
theorem Sz.step {k : Nat} {d : D} (h : Sz k d) (hi : Inv d) (o : Op) (hb : o.b.length ≤ 1048576) : Sz (k + 1) (step d o).1 := by
 have hm := h.mono (Nat.le_succ k)
 unfold Dk.step
 repeat' split
 ·exact h.create _
 ·exact h.append hi _ _ hb
 ·exact h.sync hi _
 ·exact h.rename _ _
 ·exact h.remove _
 ·exact h.syncDir hi
 ·exact ⟨hm.files, hm.dirs, hm.bytes, hm.calls⟩
 ·exact ⟨hm.files, hm.dirs, hm.bytes, hm.calls⟩
 ·exact ⟨hm.files, hm.dirs, hm.bytes, hm.calls⟩
 ·exact hm.crash hi _ _
def new (n : Int) : D := ⟨[], [], [], [], max n 0, -1, -1, 0⟩
theorem Inv.new (n : Int) : Inv (new n) := ⟨rfl, Well.nil _, by simp [Dk.new]⟩
theorem Sz.new (n : Int) : Sz 0 (new n) := ⟨Nat.le_refl _, Nat.le_refl _, Nat.le_refl _, Nat.le_refl _⟩
end Go.Proofs.YteaglaijkafphaaDoor.Dk
