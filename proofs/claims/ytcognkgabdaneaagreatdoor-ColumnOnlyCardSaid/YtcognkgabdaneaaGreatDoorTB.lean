/-
  The plain mathematics of package tally, reading: what is read at the beginning of a list of bytes. No program.
  Contracts of package tally: what is read at the beginning of a string.
  Contracts of package tally: 'number' and 'text', whole.
  Contracts of package tally: the cursor's methods.
  Contracts of package tally: the cursor's methods Int, Text, Byte, Done; a cursor that isn't there.
-/
import Derived.Test.YtcognkgabdaneaaGreatDoorTA
import Derived.IntWalk
import Derived.Laws.Bits64
namespace Go.Proofs.YtcognkgabdaneaaGreatDoor.Ty
theorem wrapu64 (n : Int) (h0 : 0 ≤ n) (h1 : n < 2 ^ 64) : IntKind.u64.wrap n = n := by rw [IntKind.wrap_u64]; omega

/-- What the first k bytes of l spell, of the first one its lowest six bits. -/
def pv (l : List UInt8) : Nat → Nat
  | 0 => 0
  | 1 => (l.getD 0 0).toNat % 64
  | k + 2 => pv l (k + 1) * 256 + (l.getD (k + 1) 0).toNat
/-- The smallest number of a form. -/
def small : Nat → Nat
  | 0 => 0
  | 1 => 64
  | 2 => 16384
  | _ => 1073741824
/-- What is read at the beginning of l: the number, how many bytes it takes, the error. -/
def num (l : List UInt8) : Nat × Nat × Nat :=
  match l with
  | [] => (0, 0, 2)
  | b :: r => if 192 < b.toNat then (0, 0, 5) else if (b :: r).length < 1 + after (b.toNat / 64) then (0, 0, 2) else
    if pv (b :: r) (1 + after (b.toNat / 64)) < small (b.toNat / 64) then (0, 0, 5) else (pv (b :: r) (1 + after (b.toNat / 64)), 1 + after (b.toNat / 64), 0)
theorem pv_succ (l : List UInt8) (k : Nat) (hk : 1 ≤ k) : pv l (k + 1) = pv l k * 256 + (l.getD k 0).toNat := by
  match k, hk with
  | k + 1, _ => rfl
theorem pv_lt (l : List UInt8) : ∀ k, pv l (k + 1) < 64 * 256 ^ k
  | 0 => by simp [pv]; omega
  | k + 1 => by
    have := pv_lt l k
    have h2 := (l.getD (k + 1) 0).toNat_lt
    rw [pv_succ l (k + 1) (by omega), Nat.pow_succ]
    omega
theorem pv_lt9 (l : List UInt8) (h : (l.getD 0 0).toNat % 64 = 0) : ∀ k, pv l (k + 1) < 256 ^ k
  | 0 => by simp [pv]; simpa using h
  | k + 1 => by
    have := pv_lt9 l h k
    have h2 := (l.getD (k + 1) 0).toNat_lt
    rw [pv_succ l (k + 1) (by omega), Nat.pow_succ]
    omega
theorem or_byte (p b : Nat) (hp : p < 72057594037927936) (hb : b < 256) : bits .or .u64 ((p * 256 : Nat) : Int) (b : Int) = ((p * 256 + b : Nat) : Int) := by
  have h := (bits_nat .u64 64 (by decide) wrapu64 (p * 256) b (by omega) (by omega)).2
  rw [h]
  have := Nat.two_pow_add_eq_or_of_lt (i := 8) (b := b) (by omega) p
  rw [Nat.mul_comm p 256]
  exact congrArg Int.ofNat this.symm
/-- What is read as a string of at most most bytes at the beginning of l: its bytes, how many bytes it takes, the error. -/
def txt (l : List UInt8) (most : Int) : List UInt8 × Nat × Nat :=
  if (num l).2.2 ≠ 0 then ([], 0, (num l).2.2) else if most < 0 ∨ most < ((num l).1 : Int) then ([], 0, 3) else
    if l.length - (num l).2.1 < (num l).1 then ([], 0, 2) else ((l.drop (num l).2.1).take (num l).1, (num l).2.1 + (num l).1, 0)
theorem num_nil : num [] = (0, 0, 2) := rfl
theorem num_is (l : List UInt8) (h : 0 < l.length) : num l = if 192 < (l.getD 0 0).toNat then (0, 0, 5) else if l.length < 1 + after ((l.getD 0 0).toNat / 64) then (0, 0, 2) else
    if pv l (1 + after ((l.getD 0 0).toNat / 64)) < small ((l.getD 0 0).toNat / 64) then (0, 0, 5) else (pv l (1 + after ((l.getD 0 0).toNat / 64)), 1 + after ((l.getD 0 0).toNat / 64), 0) := by
  cases l with
  | nil => simp at h
  | cons b r => rfl
theorem num_high {l : List UInt8} (h : 0 < l.length) (hb : 192 < (l.getD 0 0).toNat) : num l = (0, 0, 5) := by rw [num_is l h, if_pos hb]
theorem num_cut {l : List UInt8} (h : 0 < l.length) (hb : ¬ 192 < (l.getD 0 0).toNat) {f : Nat} (hf : (l.getD 0 0).toNat / 64 = f) (hl : l.length < 1 + after f) : num l = (0, 0, 2) := by rw [num_is l h, if_neg hb, hf, if_pos hl]
theorem num_less {l : List UInt8} (h : 0 < l.length) (hb : ¬ 192 < (l.getD 0 0).toNat) {f : Nat} (hf : (l.getD 0 0).toNat / 64 = f) (hl : ¬ l.length < 1 + after f) (hp : pv l (1 + after f) < small f) : num l = (0, 0, 5) := by rw [num_is l h, if_neg hb, hf, if_neg hl, if_pos hp]
theorem num_whole {l : List UInt8} (h : 0 < l.length) (hb : ¬ 192 < (l.getD 0 0).toNat) {f : Nat} (hf : (l.getD 0 0).toNat / 64 = f) (hl : ¬ l.length < 1 + after f) (hp : ¬ pv l (1 + after f) < small f) : num l = (pv l (1 + after f), 1 + after f, 0) := by rw [num_is l h, if_neg hb, hf, if_neg hl, if_neg hp]
/-- A byte more: what the program computes is what is meant. -/
theorem or_step (l : List UInt8) (b : UInt8) (k : Nat) (hk : 1 ≤ k) (hp : pv l k < 72057594037927936) (hb : b = l.getD k 0) :
    bits .or .u64 (IntKind.u64.wrap ((pv l k : Int) * 256)) (IntKind.u64.wrap (b.toNat : Int)) = (pv l (k + 1) : Int) := by
  have h2 := b.toNat_lt
  rw [wrapu64 _ (by omega) (by omega), wrapu64 _ (by omega) (by omega), pv_succ l k hk, ← hb]
  exact or_byte (pv l k) b.toNat hp (by omega)
theorem pv_small4 (l : List UInt8) (k : Nat) (h1 : 1 ≤ k) (h : k ≤ 4) : pv l k < 72057594037927936 := by
  have := pv_lt l (k - 1)
  rw [show k - 1 + 1 = k by omega] at this
  have h2 : 256 ^ (k - 1) ≤ 256 ^ 3 := Nat.pow_le_pow_right (by omega) (by omega)
  have h3 : (256 : Nat) ^ 3 = 16777216 := by decide
  omega
theorem pv_small8 (l : List UInt8) (h0 : (l.getD 0 0).toNat % 64 = 0) (k : Nat) (h1 : 1 ≤ k) (h : k ≤ 8) : pv l k < 72057594037927936 := by
  have := pv_lt9 l h0 (k - 1)
  rw [show k - 1 + 1 = k by omega] at this
  have h2 : 256 ^ (k - 1) ≤ 256 ^ 7 := Nat.pow_le_pow_right (by omega) (by omega)
  have h3 : (256 : Nat) ^ 7 = 72057594037927936 := by decide
  omega
theorem num_cases (l : List UInt8) : (num l).2.2 = 0 ∧ l ≠ [] ∧ (∃ f, f ≤ 3 ∧ 64 * f ≤ (l.getD 0 0).toNat ∧ (l.getD 0 0).toNat < 64 * f + 64 ∧ (l.getD 0 0).toNat ≤ 192 ∧ num l = (pv l (1 + after f), 1 + after f, 0) ∧ 1 + after f ≤ l.length ∧ small f ≤ pv l (1 + after f)) ∨
    ((num l).2.2 = 2 ∨ (num l).2.2 = 5) ∧ (num l).1 = 0 ∧ (num l).2.1 = 0 := by
  by_cases h0 : 0 < l.length
  · by_cases h1 : 192 < (l.getD 0 0).toNat
    · right; rw [num_high h0 h1]; simp
    · obtain ⟨f, hf⟩ : ∃ f, (l.getD 0 0).toNat / 64 = f := ⟨_, rfl⟩
      by_cases h2 : l.length < 1 + after f
      · right; rw [num_cut h0 h1 hf h2]; simp
      · by_cases h3 : pv l (1 + after f) < small f
        · right; rw [num_less h0 h1 hf h2 h3]; simp
        · left
          have e := num_whole h0 h1 hf h2 h3
          exact ⟨by rw [e], by intro e; subst e; simp at h0, f, by omega, by omega, by omega, by omega, e, by omega, by omega⟩
  · right
    have : l = [] := List.eq_nil_of_length_eq_zero (by omega)
    subst this
    simp [num]
theorem num_u64 (l : List UInt8) : U64 (num l).1 := by
  rcases num_cases l with ⟨_, _, f, hf, h1, h2, h3, e, _, _⟩ | ⟨_, h, _⟩
  · rw [e]
    unfold U64
    rcases (by omega : f = 0 ∨ f = 1 ∨ f = 2 ∨ f = 3) with rfl | rfl | rfl | rfl
    · have := pv_lt l 0; show pv l (0 + 1) < 2 ^ 64; omega
    · have := pv_lt l 1; show pv l (1 + 1) < 2 ^ 64; omega
    · have := pv_lt l 3; show pv l (3 + 1) < 2 ^ 64; omega
    · have := pv_lt9 l (by omega) 8; show pv l (8 + 1) < 2 ^ 64; omega
  · rw [h]; unfold U64; omega
theorem num_size (l : List UInt8) : (num l).2.1 ≤ l.length := by
  rcases num_cases l with ⟨_, _, f, hf, h1, h2, h3, e, hl, _⟩ | ⟨_, _, h⟩
  · rw [e]; exact hl
  · rw [h]; omega
theorem num_size9 (l : List UInt8) : (num l).2.1 ≤ 9 := by
  rcases num_cases l with ⟨_, _, f, hf, h1, h2, h3, e, hl, _⟩ | ⟨_, _, h⟩
  · rw [e]
    rcases (by omega : f = 0 ∨ f = 1 ∨ f = 2 ∨ f = 3) with rfl | rfl | rfl | rfl <;> simp [after]
  · rw [h]; omega
theorem num_err (l : List UInt8) (h : (num l).2.2 ≠ 0) : (num l).1 = 0 ∧ (num l).2.1 = 0 := by
  rcases num_cases l with ⟨h0, _⟩ | ⟨_, h1, h2⟩
  · exact absurd h0 h
  · exact ⟨h1, h2⟩
theorem txt_bad {l : List UInt8} {most : Int} (h : (num l).2.2 ≠ 0) : txt l most = ([], 0, (num l).2.2) := by unfold txt; rw [if_pos h]
theorem txt_long {l : List UInt8} {most : Int} (h : (num l).2.2 = 0) (h2 : most < 0 ∨ most < ((num l).1 : Int)) : txt l most = ([], 0, 3) := by unfold txt; rw [if_neg (by omega), if_pos h2]
theorem txt_short {l : List UInt8} {most : Int} (h : (num l).2.2 = 0) (h2 : ¬ (most < 0 ∨ most < ((num l).1 : Int))) (h3 : l.length - (num l).2.1 < (num l).1) : txt l most = ([], 0, 2) := by unfold txt; rw [if_neg (by omega), if_neg h2, if_pos h3]
theorem txt_whole {l : List UInt8} {most : Int} (h : (num l).2.2 = 0) (h2 : ¬ (most < 0 ∨ most < ((num l).1 : Int))) (h3 : ¬ l.length - (num l).2.1 < (num l).1) : txt l most = ((l.drop (num l).2.1).take (num l).1, (num l).2.1 + (num l).1, 0) := by unfold txt; rw [if_neg (by omega), if_neg h2, if_neg h3]
theorem txt_size (l : List UInt8) (most : Int) : (txt l most).2.1 ≤ l.length := by
  have := num_size l
  unfold txt
  split
  · simp
  · split
    · simp
    · split
      · simp
      · simp only; omega
end Go.Proofs.YtcognkgabdaneaaGreatDoor.Ty

namespace Go.Proofs.YtcognkgabdaneaaGreatDoor
open Go.RowKit
theorem Ty.length_data (s : ByteArray) : s.data.toList.length = s.size := by rw [Array.length_toList]; rfl
theorem Ty.at_getD (s : ByteArray) (k : Nat) (h : k < s.size) : s[k] = s.data.toList.getD k 0 := by
  have h2 : k < s.data.toList.length := by rw [Ty.length_data]; exact h
  rw [List.getD, List.getElem?_eq_getElem h2]; rfl
theorem Ty.isEmpty_pos (s : ByteArray) (h : 0 < s.size) : s.toList.isEmpty = false := by
  rw [ByteArray.toList_eq, List.isEmpty_eq_false_iff]
  intro e
  have := Ty.length_data s
  rw [e] at this
  simp at this
  omega
theorem Ty.isEmpty_zero (s : ByteArray) (h : s.size = 0) : s.data.toList = [] := List.eq_nil_of_length_eq_zero (by rw [Ty.length_data]; exact h)
/-- What 'number' returns. -/
def Ty.numV (l : List UInt8) : Value := .tuple #[.int .u64 (Ty.num l).1, .int .i64 (Ty.num l).2.1, .int .i64 (Ty.num l).2.2]

set_option maxHeartbeats 1000000 in
theorem Ty.number_0 (s : ByteArray) (w : World) (h : Ty.Tabs w) (hs : s.size ≤ 9223372036854775807) (h0 : 0 < s.size) (h1 : (s[0].toNat : Int) ≤ 192) (h2 : (s[0].toNat : Int) / 64 = 0) :
    Calls Tryz.prog 63 #[.string s] w fun e w' => e = .returned (Ty.numV s.data.toList) ∧ w' = w := by
  obtain ⟨z0, z1, z2, z3, s0, s1, s2, s3, _⟩ := h
  have hne : s.toList.isEmpty = false := Ty.isEmpty_pos s h0
  have hll : s.data.toList.length = s.size := Ty.length_data s
  have e0 := Ty.at_getD s 0 h0
  have H0 : Hid (0 < s.data.toList.length) := Lib.hid (by omega)
  have Hb : Hid (¬ 192 < (s.data.toList.getD 0 0).toNat) := Lib.hid (by rw [← e0]; omega)
  have Hf : Hid ((s.data.toList.getD 0 0).toNat / 64 = 0) := Lib.hid (by rw [← e0]; omega)
  have Hl : Hid (¬ s.data.toList.length < 1 + Ty.after 0) := Lib.hid (by rw [hll]; show ¬ s.size < 1 + 0; omega)
  have E0 := Lib.hid e0
  clear e0 hll
  have hnz : ¬ ((s[0].toNat : Int) % 64 < 0) := by omega
  have hsz : (1 : Int) ≤ s.size := by omega
  have HN := Lib.hid (Ty.num_whole H0.out Hb.out Hf.out Hl.out (by show ¬ Ty.pv _ 1 < 0; omega))
  go_enter Tryz.func63, Tryz.ntmps63
  go_wp2
  refine wp_loop_rounds 1 ?_; rw [rounds_succ]
  go_wp2
  go_ret3
  exact ⟨by unfold Ty.numV; rw [HN.out]; simp [Ty.pv, Ty.after, E0.out], rfl⟩

set_option maxHeartbeats 1000000 in
theorem Ty.number_1 (s : ByteArray) (w : World) (h : Ty.Tabs w) (hs : s.size ≤ 9223372036854775807) (h0 : 0 < s.size) (h1 : (s[0].toNat : Int) ≤ 192) (h2 : (s[0].toNat : Int) / 64 = 1) :
    Calls Tryz.prog 63 #[.string s] w fun e w' => e = .returned (Ty.numV s.data.toList) ∧ w' = w := by
  obtain ⟨z0, z1, z2, z3, s0, s1, s2, s3, _⟩ := h
  have hne : s.toList.isEmpty = false := Ty.isEmpty_pos s h0
  have hll : s.data.toList.length = s.size := Ty.length_data s
  have e0 := Ty.at_getD s 0 h0
  have H0 : Hid (0 < s.data.toList.length) := Lib.hid (by omega)
  have Hb : Hid (¬ 192 < (s.data.toList.getD 0 0).toNat) := Lib.hid (by rw [← e0]; omega)
  have Hf : Hid ((s.data.toList.getD 0 0).toNat / 64 = 1) := Lib.hid (by rw [← e0]; omega)
  have HL := Lib.hid hll
  have E0 := Lib.hid e0
  clear e0 hll
  by_cases h4 : (2 : Int) ≤ s.size
  · have Hl : Hid (¬ s.data.toList.length < 1 + Ty.after 1) := Lib.hid (by rw [HL.out]; simp [Ty.after]; omega)
    have Hst : Hid (∀ k, 1 ≤ k → k < 2 → Ty.pv s.data.toList k < 72057594037927936) := Lib.hid fun k a b => Ty.pv_small4 _ k a (by omega)
    obtain ⟨PV, HPV⟩ : ∃ f : Nat → Int, Hid (∀ k, f k = (Ty.pv s.data.toList k : Int)) := ⟨fun k => (Ty.pv s.data.toList k : Int), fun _ => rfl⟩
    by_cases h5 : PV 2 < 64
    · have HN := Lib.hid (Ty.num_less H0.out Hb.out Hf.out Hl.out (by show Ty.pv _ 2 < 64; have := HPV.out 2; omega))
      go_enter Tryz.func63, Tryz.ntmps63
      go_wp2
      go_loop [8, 9] (fun n i => ∃ k : Nat, 1 ≤ k ∧ k ≤ 2 ∧ i = .int .i64 k ∧ n = .int .u64 (PV k)) (fun _ i => 2 - (intOf i).toNat)
      case atStart => exact ⟨1, by omega, by omega, rfl, by simp [HPV.out, Ty.pv, E0.out]⟩
      case round =>
        obtain ⟨k, hk1, hk2, rfl, rfl⟩ := hrel
        by_cases hk : k < 2
        · have hks : k < s.size := by omega
          go_wp2
          go_round
          case rel => exact ⟨k + 1, by omega, by omega, by simp, by rw [HPV.out, HPV.out]; exact congrArg (Value.int .u64) (Ty.or_step _ _ k hk1 (Hst.out k hk1 hk) (Ty.at_getD s k hks))⟩
          case measure => simp [intOf]; omega
        · obtain rfl : k = 2 := by omega
          go_wp2
          go_ret3
          exact ⟨by first | (unfold Ty.numV; rw [HN.out, HPV.out]; rfl) | (unfold Ty.numV; rw [HN.out]; rfl), rfl⟩
    · have HN := Lib.hid (Ty.num_whole H0.out Hb.out Hf.out Hl.out (by show ¬ Ty.pv _ 2 < 64; have := HPV.out 2; omega))
      go_enter Tryz.func63, Tryz.ntmps63
      go_wp2
      go_loop [8, 9] (fun n i => ∃ k : Nat, 1 ≤ k ∧ k ≤ 2 ∧ i = .int .i64 k ∧ n = .int .u64 (PV k)) (fun _ i => 2 - (intOf i).toNat)
      case atStart => exact ⟨1, by omega, by omega, rfl, by simp [HPV.out, Ty.pv, E0.out]⟩
      case round =>
        obtain ⟨k, hk1, hk2, rfl, rfl⟩ := hrel
        by_cases hk : k < 2
        · have hks : k < s.size := by omega
          go_wp2
          go_round
          case rel => exact ⟨k + 1, by omega, by omega, by simp, by rw [HPV.out, HPV.out]; exact congrArg (Value.int .u64) (Ty.or_step _ _ k hk1 (Hst.out k hk1 hk) (Ty.at_getD s k hks))⟩
          case measure => simp [intOf]; omega
        · obtain rfl : k = 2 := by omega
          go_wp2
          go_ret3
          exact ⟨by first | (unfold Ty.numV; rw [HN.out, HPV.out]; rfl) | (unfold Ty.numV; rw [HN.out]; rfl), rfl⟩
  · have HN := Lib.hid (Ty.num_cut H0.out Hb.out Hf.out (by rw [HL.out]; simp [Ty.after]; omega))
    go_enter Tryz.func63, Tryz.ntmps63
    go_wp2
    go_ret3
    exact ⟨by first | (unfold Ty.numV; rw [HN.out, HPV.out]; rfl) | (unfold Ty.numV; rw [HN.out]; rfl), rfl⟩

set_option maxHeartbeats 1000000 in
theorem Ty.number_2 (s : ByteArray) (w : World) (h : Ty.Tabs w) (hs : s.size ≤ 9223372036854775807) (h0 : 0 < s.size) (h1 : (s[0].toNat : Int) ≤ 192) (h2 : (s[0].toNat : Int) / 64 = 2) :
    Calls Tryz.prog 63 #[.string s] w fun e w' => e = .returned (Ty.numV s.data.toList) ∧ w' = w := by
  obtain ⟨z0, z1, z2, z3, s0, s1, s2, s3, _⟩ := h
  have hne : s.toList.isEmpty = false := Ty.isEmpty_pos s h0
  have hll : s.data.toList.length = s.size := Ty.length_data s
  have e0 := Ty.at_getD s 0 h0
  have H0 : Hid (0 < s.data.toList.length) := Lib.hid (by omega)
  have Hb : Hid (¬ 192 < (s.data.toList.getD 0 0).toNat) := Lib.hid (by rw [← e0]; omega)
  have Hf : Hid ((s.data.toList.getD 0 0).toNat / 64 = 2) := Lib.hid (by rw [← e0]; omega)
  have HL := Lib.hid hll
  have E0 := Lib.hid e0
  clear e0 hll
  by_cases h4 : (4 : Int) ≤ s.size
  · have Hl : Hid (¬ s.data.toList.length < 1 + Ty.after 2) := Lib.hid (by rw [HL.out]; simp [Ty.after]; omega)
    have Hst : Hid (∀ k, 1 ≤ k → k < 4 → Ty.pv s.data.toList k < 72057594037927936) := Lib.hid fun k a b => Ty.pv_small4 _ k a (by omega)
    obtain ⟨PV, HPV⟩ : ∃ f : Nat → Int, Hid (∀ k, f k = (Ty.pv s.data.toList k : Int)) := ⟨fun k => (Ty.pv s.data.toList k : Int), fun _ => rfl⟩
    by_cases h5 : PV 4 < 16384
    · have HN := Lib.hid (Ty.num_less H0.out Hb.out Hf.out Hl.out (by show Ty.pv _ 4 < 16384; have := HPV.out 4; omega))
      go_enter Tryz.func63, Tryz.ntmps63
      go_wp2
      go_loop [8, 9] (fun n i => ∃ k : Nat, 1 ≤ k ∧ k ≤ 4 ∧ i = .int .i64 k ∧ n = .int .u64 (PV k)) (fun _ i => 4 - (intOf i).toNat)
      case atStart => exact ⟨1, by omega, by omega, rfl, by simp [HPV.out, Ty.pv, E0.out]⟩
      case round =>
        obtain ⟨k, hk1, hk2, rfl, rfl⟩ := hrel
        by_cases hk : k < 4
        · have hks : k < s.size := by omega
          go_wp2
          go_round
          case rel => exact ⟨k + 1, by omega, by omega, by simp, by rw [HPV.out, HPV.out]; exact congrArg (Value.int .u64) (Ty.or_step _ _ k hk1 (Hst.out k hk1 hk) (Ty.at_getD s k hks))⟩
          case measure => simp [intOf]; omega
        · obtain rfl : k = 4 := by omega
          go_wp2
          go_ret3
          exact ⟨by first | (unfold Ty.numV; rw [HN.out, HPV.out]; rfl) | (unfold Ty.numV; rw [HN.out]; rfl), rfl⟩
    · have HN := Lib.hid (Ty.num_whole H0.out Hb.out Hf.out Hl.out (by show ¬ Ty.pv _ 4 < 16384; have := HPV.out 4; omega))
      go_enter Tryz.func63, Tryz.ntmps63
      go_wp2
      go_loop [8, 9] (fun n i => ∃ k : Nat, 1 ≤ k ∧ k ≤ 4 ∧ i = .int .i64 k ∧ n = .int .u64 (PV k)) (fun _ i => 4 - (intOf i).toNat)
      case atStart => exact ⟨1, by omega, by omega, rfl, by simp [HPV.out, Ty.pv, E0.out]⟩
      case round =>
        obtain ⟨k, hk1, hk2, rfl, rfl⟩ := hrel
        by_cases hk : k < 4
        · have hks : k < s.size := by omega
          go_wp2
          go_round
          case rel => exact ⟨k + 1, by omega, by omega, by simp, by rw [HPV.out, HPV.out]; exact congrArg (Value.int .u64) (Ty.or_step _ _ k hk1 (Hst.out k hk1 hk) (Ty.at_getD s k hks))⟩
          case measure => simp [intOf]; omega
        · obtain rfl : k = 4 := by omega
          go_wp2
          go_ret3
          exact ⟨by first | (unfold Ty.numV; rw [HN.out, HPV.out]; rfl) | (unfold Ty.numV; rw [HN.out]; rfl), rfl⟩
  · have HN := Lib.hid (Ty.num_cut H0.out Hb.out Hf.out (by rw [HL.out]; simp [Ty.after]; omega))
    go_enter Tryz.func63, Tryz.ntmps63
    go_wp2
    go_ret3
    exact ⟨by first | (unfold Ty.numV; rw [HN.out, HPV.out]; rfl) | (unfold Ty.numV; rw [HN.out]; rfl), rfl⟩

set_option maxHeartbeats 1000000 in
theorem Ty.number_3 (s : ByteArray) (w : World) (h : Ty.Tabs w) (hs : s.size ≤ 9223372036854775807) (h0 : 0 < s.size) (h1 : (s[0].toNat : Int) ≤ 192) (h2 : (s[0].toNat : Int) / 64 = 3) :
    Calls Tryz.prog 63 #[.string s] w fun e w' => e = .returned (Ty.numV s.data.toList) ∧ w' = w := by
  obtain ⟨z0, z1, z2, z3, s0, s1, s2, s3, _⟩ := h
  have hne : s.toList.isEmpty = false := Ty.isEmpty_pos s h0
  have hll : s.data.toList.length = s.size := Ty.length_data s
  have e0 := Ty.at_getD s 0 h0
  have H0 : Hid (0 < s.data.toList.length) := Lib.hid (by omega)
  have Hb : Hid (¬ 192 < (s.data.toList.getD 0 0).toNat) := Lib.hid (by rw [← e0]; omega)
  have Hf : Hid ((s.data.toList.getD 0 0).toNat / 64 = 3) := Lib.hid (by rw [← e0]; omega)
  have HL := Lib.hid hll
  have E0 := Lib.hid e0
  clear e0 hll
  by_cases h4 : (9 : Int) ≤ s.size
  · have Hl : Hid (¬ s.data.toList.length < 1 + Ty.after 3) := Lib.hid (by rw [HL.out]; simp [Ty.after]; omega)
    have Hst : Hid (∀ k, 1 ≤ k → k < 9 → Ty.pv s.data.toList k < 72057594037927936) := Lib.hid fun k a b => Ty.pv_small8 _ (by have := Hb.out; have := Hf.out; omega) k a (by omega)
    obtain ⟨PV, HPV⟩ : ∃ f : Nat → Int, Hid (∀ k, f k = (Ty.pv s.data.toList k : Int)) := ⟨fun k => (Ty.pv s.data.toList k : Int), fun _ => rfl⟩
    by_cases h5 : PV 9 < 1073741824
    · have HN := Lib.hid (Ty.num_less H0.out Hb.out Hf.out Hl.out (by show Ty.pv _ 9 < 1073741824; have := HPV.out 9; omega))
      go_enter Tryz.func63, Tryz.ntmps63
      go_wp2
      go_loop [8, 9] (fun n i => ∃ k : Nat, 1 ≤ k ∧ k ≤ 9 ∧ i = .int .i64 k ∧ n = .int .u64 (PV k)) (fun _ i => 9 - (intOf i).toNat)
      case atStart => exact ⟨1, by omega, by omega, rfl, by simp [HPV.out, Ty.pv, E0.out]⟩
      case round =>
        obtain ⟨k, hk1, hk2, rfl, rfl⟩ := hrel
        by_cases hk : k < 9
        · have hks : k < s.size := by omega
          go_wp2
          go_round
          case rel => exact ⟨k + 1, by omega, by omega, by simp, by rw [HPV.out, HPV.out]; exact congrArg (Value.int .u64) (Ty.or_step _ _ k hk1 (Hst.out k hk1 hk) (Ty.at_getD s k hks))⟩
          case measure => simp [intOf]; omega
        · obtain rfl : k = 9 := by omega
          go_wp2
          go_ret3
          exact ⟨by first | (unfold Ty.numV; rw [HN.out, HPV.out]; rfl) | (unfold Ty.numV; rw [HN.out]; rfl), rfl⟩
    · have HN := Lib.hid (Ty.num_whole H0.out Hb.out Hf.out Hl.out (by show ¬ Ty.pv _ 9 < 1073741824; have := HPV.out 9; omega))
      go_enter Tryz.func63, Tryz.ntmps63
      go_wp2
      go_loop [8, 9] (fun n i => ∃ k : Nat, 1 ≤ k ∧ k ≤ 9 ∧ i = .int .i64 k ∧ n = .int .u64 (PV k)) (fun _ i => 9 - (intOf i).toNat)
      case atStart => exact ⟨1, by omega, by omega, rfl, by simp [HPV.out, Ty.pv, E0.out]⟩
      case round =>
        obtain ⟨k, hk1, hk2, rfl, rfl⟩ := hrel
        by_cases hk : k < 9
        · have hks : k < s.size := by omega
          go_wp2
          go_round
          case rel => exact ⟨k + 1, by omega, by omega, by simp, by rw [HPV.out, HPV.out]; exact congrArg (Value.int .u64) (Ty.or_step _ _ k hk1 (Hst.out k hk1 hk) (Ty.at_getD s k hks))⟩
          case measure => simp [intOf]; omega
        · obtain rfl : k = 9 := by omega
          go_wp2
          go_ret3
          exact ⟨by first | (unfold Ty.numV; rw [HN.out, HPV.out]; rfl) | (unfold Ty.numV; rw [HN.out]; rfl), rfl⟩
  · have HN := Lib.hid (Ty.num_cut H0.out Hb.out Hf.out (by rw [HL.out]; simp [Ty.after]; omega))
    go_enter Tryz.func63, Tryz.ntmps63
    go_wp2
    go_ret3
    exact ⟨by first | (unfold Ty.numV; rw [HN.out, HPV.out]; rfl) | (unfold Ty.numV; rw [HN.out]; rfl), rfl⟩
end Go.Proofs.YtcognkgabdaneaaGreatDoor

namespace Go.Proofs.YtcognkgabdaneaaGreatDoor
open Go.RowKit
set_option maxHeartbeats 400000 in
theorem Ty.number_c (s : ByteArray) (w : World) (h : Ty.Tabs w) (hs : s.size ≤ 9223372036854775807) :
    Calls Tryz.prog 63 #[.string s] w fun e w' => e = .returned (Ty.numV s.data.toList) ∧ w' = w := by
  by_cases h0 : 0 < s.size
  · by_cases h1 : (s[0].toNat : Int) ≤ 192
    · have hf : (s[0].toNat : Int) / 64 = 0 ∨ (s[0].toNat : Int) / 64 = 1 ∨ (s[0].toNat : Int) / 64 = 2 ∨ (s[0].toNat : Int) / 64 = 3 := by omega
      rcases hf with hf | hf | hf | hf
      · exact Ty.number_0 s w h hs h0 h1 hf
      · exact Ty.number_1 s w h hs h0 h1 hf
      · exact Ty.number_2 s w h hs h0 h1 hf
      · exact Ty.number_3 s w h hs h0 h1 hf
    · have hne : s.toList.isEmpty = false := Ty.isEmpty_pos s h0
      have HN := Lib.hid (Ty.num_high (l := s.data.toList) (by rw [Ty.length_data]; exact h0) (by rw [← Ty.at_getD s 0 h0]; omega))
      go_enter Tryz.func63, Tryz.ntmps63
      go_wp2
      go_ret3
      exact ⟨by unfold Ty.numV; rw [HN.out]; rfl, rfl⟩
  · have hz : s.size = 0 := by omega
    have he : s.toList.isEmpty = true := by rw [ByteArray.toList_eq, Ty.isEmpty_zero s hz]; rfl
    have HN := Lib.hid (Ty.isEmpty_zero s hz)
    clear h0 hz
    go_enter Tryz.func63, Tryz.ntmps63
    go_wp2
    go_ret3
    exact ⟨by rw [HN.out]; rfl, rfl⟩
/-- A list of bytes as a string. -/
def Ty.S (l : List UInt8) : ByteArray := ⟨l.toArray⟩
theorem Ty.S_data (s : ByteArray) : Ty.S s.data.toList = s := rfl
theorem Ty.data_S (l : List UInt8) : (Ty.S l).data.toList = l := rfl
theorem Ty.size_S (l : List UInt8) : (Ty.S l).size = l.length := rfl
theorem Ty.extract_S (s : ByteArray) (a b : Nat) : s.extract a b = Ty.S ((s.data.toList.drop a).take (b - a)) := ByteArray.extract_mk s.data.toList a b
/-- What 'text' returns. -/
def Ty.txtV (l : List UInt8) (most : Int) : Value := .tuple #[.string (Ty.S (Ty.txt l most).1), .int .i64 (Ty.txt l most).2.1, .int .i64 (Ty.txt l most).2.2]
set_option maxHeartbeats 400000 in
theorem Ty.text_bad (s : ByteArray) (most : Int) (w : World) (h : Ty.Tabs w) (hs : s.size ≤ 9223372036854775807) (he : (Ty.num s.data.toList).2.2 ≠ 0) :
    Calls Tryz.prog 138 #[.string s, .int .i64 most] w fun e w' => e = .returned (Ty.txtV s.data.toList most) ∧ w' = w := by
  have HT := Lib.hid (Ty.txt_bad (most := most) he)
  have hb : (((Ty.num s.data.toList).2.2 : Int) != 0) = true := by rw [bne_iff_ne]; omega
  clear he
  go_enter Tryz.func138, Tryz.ntmps138
  go_wp2_with fail
  refine (Ty.number_c s _ h hs).mono ?_
  rintro e w' ⟨rfl, rfl⟩
  unfold Ty.numV
  go_wp2
  go_ret3
  exact ⟨by unfold Ty.txtV; rw [HT.out]; rfl, rfl⟩
theorem Ty.number_is (s : ByteArray) (w : World) (h : Ty.Tabs w) (hs : s.size ≤ 9223372036854775807) {n sz : Nat} (hn : Ty.num s.data.toList = (n, sz, 0)) :
    Calls Tryz.prog 63 #[.string s] w fun e w' => e = .returned (.tuple #[.int .u64 n, .int .i64 sz, .int .i64 0]) ∧ w' = w := by
  have := Ty.number_c s w h hs
  unfold Ty.numV at this
  rw [hn] at this
  exact this
set_option maxHeartbeats 400000 in
theorem Ty.text_good (s : ByteArray) (most : Int) (w : World) (h : Ty.Tabs w) (hs : s.size ≤ 9223372036854775807) (hm : -9223372036854775808 ≤ most ∧ most ≤ 9223372036854775807) {n sz : Nat} (hn : Ty.num s.data.toList = (n, sz, 0)) :
    Calls Tryz.prog 138 #[.string s, .int .i64 most] w fun e w' => e = .returned (Ty.txtV s.data.toList most) ∧ w' = w := by
  have hsz : sz ≤ s.size := by have := Ty.num_size s.data.toList; rw [hn, Ty.length_data] at this; exact this
  have HN := Lib.hid hn
  have e1 : (Ty.num s.data.toList).1 = n := by rw [hn]
  have e2 : (Ty.num s.data.toList).2.1 = sz := by rw [hn]
  have e3 : (Ty.num s.data.toList).2.2 = 0 := by rw [hn]
  obtain ⟨hm1, hm2⟩ := hm
  clear hn
  by_cases h1 : most < 0
  · have HT := Lib.hid (Ty.txt_long e3 (.inl h1))
    clear e1 e2 e3
    go_enter Tryz.func138, Tryz.ntmps138
    go_wp2_with fail
    refine (Ty.number_is s _ h hs HN.out).mono ?_
    rintro e w' ⟨rfl, rfl⟩
    go_wp2
    go_ret3
    exact ⟨by unfold Ty.txtV; rw [HT.out]; rfl, rfl⟩
  · by_cases h2 : most < (n : Int)
    · have HT := Lib.hid (Ty.txt_long e3 (.inr (by rw [e1]; exact h2)))
      clear e1 e2 e3
      go_enter Tryz.func138, Tryz.ntmps138
      go_wp2_with fail
      refine (Ty.number_is s _ h hs HN.out).mono ?_
      rintro e w' ⟨rfl, rfl⟩
      go_wp2
      go_ret3
      exact ⟨by unfold Ty.txtV; rw [HT.out]; rfl, rfl⟩
    · by_cases h3 : (s.size : Int) - (sz : Int) < (n : Int)
      · have HT := Lib.hid (Ty.txt_short e3 (most := most) (by rw [e1]; omega) (by rw [e1, e2, Ty.length_data]; omega))
        clear e1 e2 e3
        go_enter Tryz.func138, Tryz.ntmps138
        go_wp2_with fail
        refine (Ty.number_is s _ h hs HN.out).mono ?_
        rintro e w' ⟨rfl, rfl⟩
        go_wp2
        go_ret3
        exact ⟨by unfold Ty.txtV; rw [HT.out]; rfl, rfl⟩
      · have HT := Lib.hid (Ty.txt_whole e3 (most := most) (by rw [e1]; omega) (by rw [e1, e2, Ty.length_data]; omega))
        have E1 := Lib.hid e1
        have E2 := Lib.hid e2
        clear e1 e2 e3
        have hns : n ≤ s.size := by omega
        have hes : sz + n ≤ s.size := by omega
        go_enter Tryz.func138, Tryz.ntmps138
        go_wp2_with fail
        refine (Ty.number_is s _ h hs HN.out).mono ?_
        rintro e w' ⟨rfl, rfl⟩
        go_wp2
        go_ret3
        refine ⟨?_, rfl⟩
        unfold Ty.txtV
        rw [HT.out]
        simp only [E1.out, E2.out, Ty.extract_S, Nat.add_sub_cancel_left, Int.natCast_add]
        rfl
/-- 'text', whatever comes in. -/
theorem Ty.text_r (s : ByteArray) (most : Int) (w : World) (h : Ty.Tabs w) (hs : s.size ≤ 9223372036854775807) (hm : -9223372036854775808 ≤ most ∧ most ≤ 9223372036854775807) :
    Calls Tryz.prog 138 #[.string s, .int .i64 most] w fun e w' => e = .returned (Ty.txtV s.data.toList most) ∧ w' = w := by
  by_cases he : (Ty.num s.data.toList).2.2 = 0
  · exact Ty.text_good s most w h hs hm (n := (Ty.num s.data.toList).1) (sz := (Ty.num s.data.toList).2.1) (by rw [← he])
  · exact Ty.text_bad s most w h hs he
end Go.Proofs.YtcognkgabdaneaaGreatDoor

namespace Go.Proofs.YtcognkgabdaneaaGreatDoor
open Go.RowKit
/-- THE CURSOR in block b: the bytes that are left, the first error. -/
def Ty.Cur (b : Nat) (w : World) (l : List UInt8) (e : Nat) : Prop := w.heap[b]? = some (.cells #[.string (Ty.S l), .int .i64 (e : Int)] 96 (0, 0))
theorem Ty.Cur.cells {b : Nat} {w : World} {l : List UInt8} {e : Nat} (h : Ty.Cur b w l e) : w.cell? ⟨b, 0, none⟩ = some (.string (Ty.S l)) ∧ w.cell? ⟨b, 1, none⟩ = some (.int .i64 (e : Int)) ∧ w.frozen? ⟨b, 0, none⟩ = false ∧ w.frozen? ⟨b, 1, none⟩ = false := by
  unfold Ty.Cur at h
  refine ⟨?_, ?_, ?_, ?_⟩ <;> simp [World.cell?, World.frozen?, h]
theorem Ty.Cur.lt {b : Nat} {w : World} {l : List UInt8} {e : Nat} (h : Ty.Cur b w l e) : b < w.heap.size := lt_of_block h
theorem Ty.two_set0 {w : World} {b : Nat} {x y u : Value} {t : TypeId} (h : w.heap[b]? = some (.cells #[x, y] t (0, 0))) : (w.setCell ⟨b, 0, none⟩ u).heap[b]? = some (.cells #[u, y] t (0, 0)) := by
  have hlt := lt_of_block h
  have h' : w.heap[b] = .cells #[x, y] t (0, 0) := by simpa [Array.getElem?_eq_getElem hlt] using h
  show (w.heap.modify b _)[b]? = _
  rw [Array.getElem?_eq_getElem (by simpa using hlt), Array.getElem_modify_self, h']
  rfl
theorem Ty.two_set1 {w : World} {b : Nat} {x y u : Value} {t : TypeId} (h : w.heap[b]? = some (.cells #[x, y] t (0, 0))) : (w.setCell ⟨b, 1, none⟩ u).heap[b]? = some (.cells #[x, u] t (0, 0)) := by
  have hlt := lt_of_block h
  have h' : w.heap[b] = .cells #[x, y] t (0, 0) := by simpa [Array.getElem?_eq_getElem hlt] using h
  show (w.heap.modify b _)[b]? = _
  rw [Array.getElem?_eq_getElem (by simpa using hlt), Array.getElem_modify_self, h']
  rfl
theorem Ty.by_set (w : World) (b o : Nat) (u : Value) : w.grownBy (w.setCell ⟨b, o, none⟩ u) (some b) :=
  ⟨rfl, rfl, rfl, by simp [World.setCell], fun k _ hk => Below.heap_setCell _ _ _ _ (fun e => hk (by rw [e]))⟩
theorem Ty.by_refl (w : World) (r : Option Nat) : w.grownBy w r := ⟨rfl, rfl, rfl, Nat.le_refl _, fun _ _ _ => rfl⟩
theorem Ty.by_trans {a b c : World} {r : Option Nat} (h : a.grownBy b r) (k : b.grownBy c r) : a.grownBy c r :=
  ⟨k.os.trans h.os, k.tape.trans h.tape, k.output.trans h.output, Nat.le_trans h.size k.size, fun i hi hn => (k.block i (Nat.lt_of_lt_of_le hi h.size) hn).trans (h.block i hi hn)⟩
theorem Ty.Tabs.kept {w w' : World} (h : Ty.Tabs w) (hs : w.heap.size ≤ w'.heap.size) (hb : ∀ k, k < Ty.G → w'.heap[k]? = w.heap[k]?) : Ty.Tabs w' := by
  have hc : ∀ k o v, k < Ty.G → w.cell? ⟨k, o, none⟩ = some v → w'.cell? ⟨k, o, none⟩ = some v := fun k o v hk hv => (World.cell?_of_block (a := ⟨k, o, none⟩) (hb k hk)).trans hv
  exact ⟨hc _ _ _ (by decide) h.z0, hc _ _ _ (by decide) h.z1, hc _ _ _ (by decide) h.z2, hc _ _ _ (by decide) h.z3, hc _ _ _ (by decide) h.s0, hc _ _ _ (by decide) h.s1, hc _ _ _ (by decide) h.s2, hc _ _ _ (by decide) h.s3, Nat.le_trans h.two hs⟩
theorem Ty.Tabs.by {w w' : World} {r : Option Nat} (h : Ty.Tabs w) (hg : w.grownBy w' r) (hr : ∀ k, r = some k → Ty.G ≤ k) : Ty.Tabs w' :=
  h.kept hg.size fun k hk => hg.block k (by have := h.two; omega) (fun e => by have := hr k e.symm; omega)
/-- What a method of the cursor leaves: its result, the cursor's state; nothing else was written. -/
def Ty.Left (b : Nat) (w : World) (v : Value) (l : List UInt8) (e' : Nat) (e : Ending) (w' : World) : Prop := e = .returned v ∧ Ty.Cur b w' l e' ∧ w.grownBy w' (some b)

set_option maxHeartbeats 400000 in
theorem Ty.from_c (l : List UInt8) (w : World) :
    Calls Tryz.prog 44 #[.string (Ty.S l)] w fun e w' => e = .returned (.pointer (some ⟨w.heap.size, 0, none⟩)) ∧ w' = w.alloc (.cells #[.string (Ty.S l), .int .i64 0] 96 (0, 0)) := by
  go_enter Tryz.func44, Tryz.ntmps44
  go_wp2
  go_ret
  exact ⟨rfl, rfl⟩
set_option maxHeartbeats 400000 in
theorem Ty.err_c (b : Nat) (l : List UInt8) (er : Nat) (w : World) (h : Ty.Cur b w l er) :
    Calls Tryz.prog 46 #[.pointer (some ⟨b, 0, none⟩)] w fun e w' => e = .returned (.int .i64 (er : Int)) ∧ w' = w := by
  obtain ⟨c0, c1, _, _⟩ := h.cells
  go_enter Tryz.func46, Tryz.ntmps46
  go_wp2
  go_ret
  exact ⟨rfl, rfl⟩
set_option maxHeartbeats 400000 in
theorem Ty.err_nil (w : World) :
    Calls Tryz.prog 46 #[.pointer none] w fun e w' => e = .returned (.int .i64 1) ∧ w' = w := by
  go_enter Tryz.func46, Tryz.ntmps46
  go_wp2
  go_ret
  exact ⟨rfl, rfl⟩
set_option maxHeartbeats 400000 in
theorem Ty.left_c (b : Nat) (l : List UInt8) (er : Nat) (w : World) (h : Ty.Cur b w l er) :
    Calls Tryz.prog 47 #[.pointer (some ⟨b, 0, none⟩)] w fun e w' => e = .returned (.int .i64 (l.length : Int)) ∧ w' = w := by
  obtain ⟨c0, c1, _, _⟩ := h.cells
  go_enter Tryz.func47, Tryz.ntmps47
  go_wp2
  go_ret
  exact ⟨rfl, rfl⟩
set_option maxHeartbeats 400000 in
theorem Ty.left_nil (w : World) :
    Calls Tryz.prog 47 #[.pointer none] w fun e w' => e = .returned (.int .i64 0) ∧ w' = w := by
  go_enter Tryz.func47, Tryz.ntmps47
  go_wp2
  go_ret
  exact ⟨rfl, rfl⟩
set_option maxHeartbeats 400000 in
theorem Ty.advance_c (b : Nat) (l : List UInt8) (er sz e' : Nat) (w : World) (h : Ty.Cur b w l er) (hsz : sz ≤ l.length) (hl : l.length ≤ 9223372036854775807) :
    Calls Tryz.prog 64 #[.pointer (some ⟨b, 0, none⟩), .int .i64 (sz : Int), .int .i64 (e' : Int)] w (Ty.Left b w (.tuple #[]) (l.drop sz) e') := by
  obtain ⟨c0, c1, f0, f1⟩ := h.cells
  have hss : sz ≤ (Ty.S l).size := hsz
  have hsl : (Ty.S l).size ≤ 9223372036854775807 := hl
  go_enter Tryz.func64, Tryz.ntmps64
  go_wp2
  go_end0
  have e1 : (Ty.S l).extract sz (Ty.S l).size = Ty.S (l.drop sz) := by
    rw [Ty.extract_S, Ty.data_S, Ty.size_S, List.take_of_length_le (by simp)]
  rw [e1]
  exact ⟨rfl, Ty.two_set1 (Ty.two_set0 h), Ty.by_trans (Ty.by_set _ _ _ _) (Ty.by_set _ _ _ _)⟩
/-- What a reading method of the cursor leaves, and what it returns, as plain functions of its state. -/
def Ty.rdU (l : List UInt8) (e : Nat) : Nat × List UInt8 × Nat := if e ≠ 0 then (0, l, e) else ((Ty.num l).1, l.drop (Ty.num l).2.1, (Ty.num l).2.2)
def Ty.rdT (most : Int) (l : List UInt8) (e : Nat) : List UInt8 × List UInt8 × Nat := if e ≠ 0 then ([], l, e) else ((Ty.txt l most).1, l.drop (Ty.txt l most).2.1, (Ty.txt l most).2.2)
def Ty.rdB (l : List UInt8) (e : Nat) : Nat × List UInt8 × Nat := if e ≠ 0 then (0, l, e) else match l with
  | [] => (0, [], 2)
  | b :: r => (b.toNat, r, 0)
set_option maxHeartbeats 400000 in
theorem Ty.cuint_c (b : Nat) (l : List UInt8) (er : Nat) (w : World) (hw : Ty.Tabs w) (h : Ty.Cur b w l er) (hl : l.length ≤ 9223372036854775807) :
    Calls Tryz.prog 45 #[.pointer (some ⟨b, 0, none⟩)] w (Ty.Left b w (.int .u64 ((Ty.rdU l er).1 : Int)) (Ty.rdU l er).2.1 (Ty.rdU l er).2.2) := by
  obtain ⟨c0, c1, f0, f1⟩ := h.cells
  by_cases he : er = 0
  · subst he
    have hsz := Ty.num_size l
    have HR : Hid (Ty.rdU l 0 = ((Ty.num l).1, l.drop (Ty.num l).2.1, (Ty.num l).2.2)) := Lib.hid (by simp [Ty.rdU])
    rw [HR.out]
    go_enter Tryz.func45, Tryz.ntmps45
    go_wp2_with fail
    refine (Ty.err_c b l 0 _ h).mono ?_
    rintro e w' ⟨rfl, rfl⟩
    go_wp2_with fail
    refine (Ty.number_c (Ty.S l) _ hw hl).mono ?_
    rintro e w2 ⟨rfl, rfl⟩
    unfold Ty.numV
    rw [Ty.data_S]
    go_wp2_with fail
    refine (Ty.advance_c b l 0 _ _ _ h hsz hl).mono ?_
    rintro e w3 ⟨rfl, hc, hg⟩
    go_wp2
    go_ret
    exact ⟨rfl, hc, hg⟩
  · have hne : ((er : Int) != 0) = true := by rw [bne_iff_ne]; omega
    have HR : Hid (Ty.rdU l er = (0, l, er)) := Lib.hid (by simp [Ty.rdU, he])
    rw [HR.out]
    clear he
    go_enter Tryz.func45, Tryz.ntmps45
    go_wp2_with fail
    refine (Ty.err_c b l er _ h).mono ?_
    rintro e w' ⟨rfl, rfl⟩
    go_wp2
    go_ret
    exact ⟨rfl, h, Ty.by_refl _ _⟩
end Go.Proofs.YtcognkgabdaneaaGreatDoor

namespace Go.Proofs.YtcognkgabdaneaaGreatDoor
open Go.RowKit
theorem Ty.rdU_u64 (l : List UInt8) (e : Nat) : Ty.U64 (Ty.rdU l e).1 := by
  unfold Ty.rdU
  split
  · show (0 : Nat) < 2 ^ 64; omega
  · exact Ty.num_u64 l
set_option maxHeartbeats 400000 in
theorem Ty.cint_c (b : Nat) (l : List UInt8) (er : Nat) (w : World) (hw : Ty.Tabs w) (h : Ty.Cur b w l er) (hl : l.length ≤ 9223372036854775807) :
    Calls Tryz.prog 117 #[.pointer (some ⟨b, 0, none⟩)] w (Ty.Left b w (.int .i64 (Ty.zag ((Ty.rdU l er).1 : Int))) (Ty.rdU l er).2.1 (Ty.rdU l er).2.2) := by
  have hu := Ty.rdU_u64 l er
  go_enter Tryz.func117, Tryz.ntmps117
  go_wp2_with fail
  refine (Ty.cuint_c b l er _ hw h hl).mono ?_
  rintro e w1 ⟨rfl, hc, hg⟩
  go_wp2_with fail
  refine (Ty.signed_nat _ _ hu).mono ?_
  rintro e w2 ⟨rfl, rfl⟩
  go_wp2
  go_ret
  exact ⟨rfl, hc, hg⟩
set_option maxHeartbeats 400000 in
theorem Ty.ctext_c (b : Nat) (l : List UInt8) (er : Nat) (most : Int) (hm : -9223372036854775808 ≤ most ∧ most ≤ 9223372036854775807) (w : World) (hw : Ty.Tabs w) (h : Ty.Cur b w l er) (hl : l.length ≤ 9223372036854775807) :
    Calls Tryz.prog 123 #[.pointer (some ⟨b, 0, none⟩), .int .i64 most] w (Ty.Left b w (.string (Ty.S (Ty.rdT most l er).1)) (Ty.rdT most l er).2.1 (Ty.rdT most l er).2.2) := by
  obtain ⟨c0, c1, f0, f1⟩ := h.cells
  by_cases he : er = 0
  · subst he
    have hsz := Ty.txt_size l most
    have HR : Hid (Ty.rdT most l 0 = ((Ty.txt l most).1, l.drop (Ty.txt l most).2.1, (Ty.txt l most).2.2)) := Lib.hid (by simp [Ty.rdT])
    rw [HR.out]
    go_enter Tryz.func123, Tryz.ntmps123
    go_wp2_with fail
    refine (Ty.err_c b l 0 _ h).mono ?_
    rintro e w' ⟨rfl, rfl⟩
    go_wp2_with fail
    refine (Ty.text_r (Ty.S l) most _ hw hl hm).mono ?_
    rintro e w2 ⟨rfl, rfl⟩
    unfold Ty.txtV
    rw [Ty.data_S]
    go_wp2_with fail
    refine (Ty.advance_c b l 0 _ _ _ h hsz hl).mono ?_
    rintro e w3 ⟨rfl, hc, hg⟩
    go_wp2
    go_ret
    exact ⟨rfl, hc, hg⟩
  · have hne : ((er : Int) != 0) = true := by rw [bne_iff_ne]; omega
    have HR : Hid (Ty.rdT most l er = ([], l, er)) := Lib.hid (by simp [Ty.rdT, he])
    rw [HR.out]
    clear he
    go_enter Tryz.func123, Tryz.ntmps123
    go_wp2_with fail
    refine (Ty.err_c b l er _ h).mono ?_
    rintro e w' ⟨rfl, rfl⟩
    go_wp2
    go_ret
    exact ⟨rfl, h, Ty.by_refl _ _⟩
set_option maxHeartbeats 400000 in
theorem Ty.cbyte_c (b : Nat) (l : List UInt8) (er : Nat) (w : World) (h : Ty.Cur b w l er) (hl : l.length ≤ 9223372036854775807) :
    Calls Tryz.prog 68 #[.pointer (some ⟨b, 0, none⟩)] w (Ty.Left b w (.int .i64 ((Ty.rdB l er).1 : Int)) (Ty.rdB l er).2.1 (Ty.rdB l er).2.2) := by
  obtain ⟨c0, c1, f0, f1⟩ := h.cells
  by_cases he : er = 0
  · subst he
    cases l with
    | nil =>
      have hemp : (Ty.S []).toList.isEmpty = true := by rw [ByteArray.toList_eq]; rfl
      go_enter Tryz.func68, Tryz.ntmps68
      go_wp2_with fail
      refine (Ty.err_c b [] 0 _ h).mono ?_
      rintro e w' ⟨rfl, rfl⟩
      go_wp2
      go_ret
      exact ⟨rfl, Ty.two_set1 h, Ty.by_set _ _ _ _⟩
    | cons x r =>
      have hp : 0 < (Ty.S (x :: r)).size := by rw [Ty.size_S]; simp
      have hemp : (Ty.S (x :: r)).toList.isEmpty = false := Ty.isEmpty_pos _ hp
      go_enter Tryz.func68, Tryz.ntmps68
      go_wp2_with fail
      refine (Ty.err_c b (x :: r) 0 _ h).mono ?_
      rintro e w' ⟨rfl, rfl⟩
      go_wp2_with fail
      refine (Ty.advance_c b (x :: r) 0 1 0 _ h (by simp) hl).mono ?_
      rintro e w3 ⟨rfl, hc, hg⟩
      go_wp2
      go_ret
      exact ⟨Ty.ret_i ((IntWalk.wrap64_in _ (by have := (Ty.S (x :: r))[0].toNat_lt; omega)).trans rfl), hc, hg⟩
  · have hne : ((er : Int) != 0) = true := by rw [bne_iff_ne]; omega
    have HR : Hid (Ty.rdB l er = (0, l, er)) := Lib.hid (by simp [Ty.rdB, he])
    rw [HR.out]
    clear he
    go_enter Tryz.func68, Tryz.ntmps68
    go_wp2_with fail
    refine (Ty.err_c b l er _ h).mono ?_
    rintro e w' ⟨rfl, rfl⟩
    go_wp2
    go_ret
    exact ⟨rfl, h, Ty.by_refl _ _⟩
/-- What Done returns. -/
def Ty.fin (l : List UInt8) (e : Nat) : Nat := if e = 0 ∧ l ≠ [] then 5 else e
set_option maxHeartbeats 400000 in
theorem Ty.done_c (b : Nat) (l : List UInt8) (er : Nat) (w : World) (h : Ty.Cur b w l er) :
    Calls Tryz.prog 71 #[.pointer (some ⟨b, 0, none⟩)] w fun e w' => e = .returned (.int .i64 (Ty.fin l er : Int)) ∧ w' = w := by
  by_cases he : er = 0
  · subst he
    by_cases hl : (0 : Int) < l.length
    · have HF : Hid (Ty.fin l 0 = 5) := Lib.hid (by unfold Ty.fin; rw [if_pos ⟨rfl, by intro e; subst e; simp at hl⟩])
      go_enter Tryz.func71, Tryz.ntmps71
      go_wp2_with fail
      refine (Ty.err_c b l 0 _ h).mono ?_
      rintro e w' ⟨rfl, rfl⟩
      go_wp2_with fail
      refine (Ty.left_c b l 0 _ h).mono ?_
      rintro e w' ⟨rfl, rfl⟩
      go_wp2
      go_ret
      exact ⟨by rw [HF.out]; rfl, rfl⟩
    · have HF : Hid (Ty.fin l 0 = 0) := Lib.hid (by unfold Ty.fin; rw [if_neg (by rintro ⟨_, h2⟩; exact h2 (List.eq_nil_of_length_eq_zero (by omega)))])
      go_enter Tryz.func71, Tryz.ntmps71
      go_wp2_with fail
      refine (Ty.err_c b l 0 _ h).mono ?_
      rintro e w' ⟨rfl, rfl⟩
      go_wp2_with fail
      refine (Ty.left_c b l 0 _ h).mono ?_
      rintro e w' ⟨rfl, rfl⟩
      go_wp2_with fail
      refine (Ty.err_c b l 0 _ h).mono ?_
      rintro e w' ⟨rfl, rfl⟩
      go_wp2
      go_ret
      exact ⟨by rw [HF.out]; rfl, rfl⟩
  · have hne : ((er : Int) == 0) = false := by rw [beq_eq_false_iff_ne]; omega
    have HF : Hid (Ty.fin l er = er) := Lib.hid (by unfold Ty.fin; rw [if_neg (by rintro ⟨h1, _⟩; exact he h1)])
    clear he
    go_enter Tryz.func71, Tryz.ntmps71
    go_wp2_with fail
    refine (Ty.err_c b l er _ h).mono ?_
    rintro e w' ⟨rfl, rfl⟩
    go_wp2_with fail
    refine (Ty.err_c b l er _ h).mono ?_
    rintro e w' ⟨rfl, rfl⟩
    go_wp2
    go_ret
    exact ⟨by rw [HF.out]; rfl, rfl⟩
set_option maxHeartbeats 400000 in
theorem Ty.cuint_nil (w : World) : Calls Tryz.prog 45 #[.pointer none] w fun e w' => e = .returned (.int .u64 0) ∧ w' = w := by
  go_enter Tryz.func45, Tryz.ntmps45
  go_wp2_with fail
  refine (Ty.err_nil _).mono ?_
  rintro e w' ⟨rfl, rfl⟩
  go_wp2
  go_ret
  exact ⟨rfl, rfl⟩
set_option maxHeartbeats 400000 in
theorem Ty.cint_nil (w : World) : Calls Tryz.prog 117 #[.pointer none] w fun e w' => e = .returned (.int .i64 0) ∧ w' = w := by
  go_enter Tryz.func117, Tryz.ntmps117
  go_wp2_with fail
  refine (Ty.cuint_nil _).mono ?_
  rintro e w' ⟨rfl, rfl⟩
  go_wp2_with fail
  refine (Ty.signed_c 0 (by omega) _ (by show (0 : Nat) < 2 ^ 64; omega)).mono ?_
  rintro e w' ⟨rfl, rfl⟩
  go_wp2
  go_ret
  exact ⟨rfl, rfl⟩
set_option maxHeartbeats 400000 in
theorem Ty.ctext_nil (most : Int) (w : World) : Calls Tryz.prog 123 #[.pointer none, .int .i64 most] w fun e w' => e = .returned (.string (Ty.S [])) ∧ w' = w := by
  go_enter Tryz.func123, Tryz.ntmps123
  go_wp2_with fail
  refine (Ty.err_nil _).mono ?_
  rintro e w' ⟨rfl, rfl⟩
  go_wp2
  go_ret
  exact ⟨rfl, rfl⟩
set_option maxHeartbeats 400000 in
theorem Ty.cbyte_nil (w : World) : Calls Tryz.prog 68 #[.pointer none] w fun e w' => e = .returned (.int .i64 0) ∧ w' = w := by
  go_enter Tryz.func68, Tryz.ntmps68
  go_wp2_with fail
  refine (Ty.err_nil _).mono ?_
  rintro e w' ⟨rfl, rfl⟩
  go_wp2
  go_ret
  exact ⟨rfl, rfl⟩
set_option maxHeartbeats 400000 in
theorem Ty.done_nil (w : World) : Calls Tryz.prog 71 #[.pointer none] w fun e w' => e = .returned (.int .i64 1) ∧ w' = w := by
  go_enter Tryz.func71, Tryz.ntmps71
  go_wp2_with fail
  refine (Ty.err_nil _).mono ?_
  rintro e w' ⟨rfl, rfl⟩
  go_wp2_with fail
  refine (Ty.err_nil _).mono ?_
  rintro e w' ⟨rfl, rfl⟩
  go_wp2
  go_ret
  exact ⟨rfl, rfl⟩
end Go.Proofs.YtcognkgabdaneaaGreatDoor
