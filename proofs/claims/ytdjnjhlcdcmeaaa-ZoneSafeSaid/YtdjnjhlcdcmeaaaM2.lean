/-
  The plain mathematics of package tally, reading: what is read at the beginning of a list of bytes. No program.
-/
import Derived.Test.YtdjnjhlcdcmeaaaM1
import Derived.IntWalk
import Derived.Laws.Bits64
namespace Go.Proofs.Ytdjnjhlcdcmeaaa.Ty
theorem wrapu64 (n : Int) (h0 : 0 ≤ n) (h1 : n < 2 ^ 64) : IntKind.u64.wrap n = n := by rw [IntKind.wrap_u64]; omega

/-- What the first k bytes of l spell, of the first one its lowest six bits. -/
def pv (l : List UInt8) : Nat → Nat
  | 0 => 0
  | 1 => (l.getD 0 0).toNat % 64
  | k + 2 => pv l (k + 1) * 256 + (l.getD (k + 1) 0).toNat
/-- The smallest number of a form. -/
def small : Nat → Nat
  | 0 => 0
  | 1 => 64
  | 2 => 16384
  | _ => 1073741824
/-- What is read at the beginning of l: the number, how many bytes it takes, the error. -/
def num (l : List UInt8) : Nat × Nat × Nat :=
  match l with
  | [] => (0, 0, 2)
  | b :: r => if 192 < b.toNat then (0, 0, 5) else if (b :: r).length < 1 + after (b.toNat / 64) then (0, 0, 2) else
    if pv (b :: r) (1 + after (b.toNat / 64)) < small (b.toNat / 64) then (0, 0, 5) else (pv (b :: r) (1 + after (b.toNat / 64)), 1 + after (b.toNat / 64), 0)
theorem pv_succ (l : List UInt8) (k : Nat) (hk : 1 ≤ k) : pv l (k + 1) = pv l k * 256 + (l.getD k 0).toNat := by
  match k, hk with
  | k + 1, _ => rfl
theorem pv_lt (l : List UInt8) : ∀ k, pv l (k + 1) < 64 * 256 ^ k
  | 0 => by simp [pv]; omega
  | k + 1 => by
    have := pv_lt l k
    have h2 := (l.getD (k + 1) 0).toNat_lt
    rw [pv_succ l (k + 1) (by omega), Nat.pow_succ]
    omega
theorem pv_lt9 (l : List UInt8) (h : (l.getD 0 0).toNat % 64 = 0) : ∀ k, pv l (k + 1) < 256 ^ k
  | 0 => by simp [pv]; simpa using h
  | k + 1 => by
    have := pv_lt9 l h k
    have h2 := (l.getD (k + 1) 0).toNat_lt
    rw [pv_succ l (k + 1) (by omega), Nat.pow_succ]
    omega
theorem or_byte (p b : Nat) (hp : p < 72057594037927936) (hb : b < 256) : bits .or .u64 ((p * 256 : Nat) : Int) (b : Int) = ((p * 256 + b : Nat) : Int) := by
  have h := (bits_nat .u64 64 (by decide) wrapu64 (p * 256) b (by omega) (by omega)).2
  rw [h]
  have := Nat.two_pow_add_eq_or_of_lt (i := 8) (b := b) (by omega) p
  rw [Nat.mul_comm p 256]
  exact congrArg Int.ofNat this.symm
/-- What is read as a string of at most most bytes at the beginning of l: its bytes, how many bytes it takes, the error. -/
def txt (l : List UInt8) (most : Int) : List UInt8 × Nat × Nat :=
  if (num l).2.2 ≠ 0 then ([], 0, (num l).2.2) else if most < 0 ∨ most < ((num l).1 : Int) then ([], 0, 3) else
    if l.length - (num l).2.1 < (num l).1 then ([], 0, 2) else ((l.drop (num l).2.1).take (num l).1, (num l).2.1 + (num l).1, 0)
theorem num_nil : num [] = (0, 0, 2) := rfl
theorem num_is (l : List UInt8) (h : 0 < l.length) : num l = if 192 < (l.getD 0 0).toNat then (0, 0, 5) else if l.length < 1 + after ((l.getD 0 0).toNat / 64) then (0, 0, 2) else
    if pv l (1 + after ((l.getD 0 0).toNat / 64)) < small ((l.getD 0 0).toNat / 64) then (0, 0, 5) else (pv l (1 + after ((l.getD 0 0).toNat / 64)), 1 + after ((l.getD 0 0).toNat / 64), 0) := by
  cases l with
  | nil => simp at h
  | cons b r => rfl
theorem num_high {l : List UInt8} (h : 0 < l.length) (hb : 192 < (l.getD 0 0).toNat) : num l = (0, 0, 5) := by rw [num_is l h, if_pos hb]
theorem num_cut {l : List UInt8} (h : 0 < l.length) (hb : ¬ 192 < (l.getD 0 0).toNat) {f : Nat} (hf : (l.getD 0 0).toNat / 64 = f) (hl : l.length < 1 + after f) : num l = (0, 0, 2) := by rw [num_is l h, if_neg hb, hf, if_pos hl]
theorem num_less {l : List UInt8} (h : 0 < l.length) (hb : ¬ 192 < (l.getD 0 0).toNat) {f : Nat} (hf : (l.getD 0 0).toNat / 64 = f) (hl : ¬ l.length < 1 + after f) (hp : pv l (1 + after f) < small f) : num l = (0, 0, 5) := by rw [num_is l h, if_neg hb, hf, if_neg hl, if_pos hp]
theorem num_whole {l : List UInt8} (h : 0 < l.length) (hb : ¬ 192 < (l.getD 0 0).toNat) {f : Nat} (hf : (l.getD 0 0).toNat / 64 = f) (hl : ¬ l.length < 1 + after f) (hp : ¬ pv l (1 + after f) < small f) : num l = (pv l (1 + after f), 1 + after f, 0) := by rw [num_is l h, if_neg hb, hf, if_neg hl, if_neg hp]
/-- A byte more: what the program computes is what is meant. -/
theorem or_step (l : List UInt8) (b : UInt8) (k : Nat) (hk : 1 ≤ k) (hp : pv l k < 72057594037927936) (hb : b = l.getD k 0) :
    bits .or .u64 (IntKind.u64.wrap ((pv l k : Int) * 256)) (IntKind.u64.wrap (b.toNat : Int)) = (pv l (k + 1) : Int) := by
  have h2 := b.toNat_lt
  rw [wrapu64 _ (by omega) (by omega), wrapu64 _ (by omega) (by omega), pv_succ l k hk, ← hb]
  exact or_byte (pv l k) b.toNat hp (by omega)
theorem pv_small4 (l : List UInt8) (k : Nat) (h1 : 1 ≤ k) (h : k ≤ 4) : pv l k < 72057594037927936 := by
  have := pv_lt l (k - 1)
  rw [show k - 1 + 1 = k by omega] at this
  have h2 : 256 ^ (k - 1) ≤ 256 ^ 3 := Nat.pow_le_pow_right (by omega) (by omega)
  have h3 : (256 : Nat) ^ 3 = 16777216 := by decide
  omega
theorem pv_small8 (l : List UInt8) (h0 : (l.getD 0 0).toNat % 64 = 0) (k : Nat) (h1 : 1 ≤ k) (h : k ≤ 8) : pv l k < 72057594037927936 := by
  have := pv_lt9 l h0 (k - 1)
  rw [show k - 1 + 1 = k by omega] at this
  have h2 : 256 ^ (k - 1) ≤ 256 ^ 7 := Nat.pow_le_pow_right (by omega) (by omega)
  have h3 : (256 : Nat) ^ 7 = 72057594037927936 := by decide
  omega
theorem num_cases (l : List UInt8) : (num l).2.2 = 0 ∧ l ≠ [] ∧ (∃ f, f ≤ 3 ∧ 64 * f ≤ (l.getD 0 0).toNat ∧ (l.getD 0 0).toNat < 64 * f + 64 ∧ (l.getD 0 0).toNat ≤ 192 ∧ num l = (pv l (1 + after f), 1 + after f, 0) ∧ 1 + after f ≤ l.length ∧ small f ≤ pv l (1 + after f)) ∨
    ((num l).2.2 = 2 ∨ (num l).2.2 = 5) ∧ (num l).1 = 0 ∧ (num l).2.1 = 0 := by
  by_cases h0 : 0 < l.length
  · by_cases h1 : 192 < (l.getD 0 0).toNat
    · right; rw [num_high h0 h1]; simp
    · obtain ⟨f, hf⟩ : ∃ f, (l.getD 0 0).toNat / 64 = f := ⟨_, rfl⟩
      by_cases h2 : l.length < 1 + after f
      · right; rw [num_cut h0 h1 hf h2]; simp
      · by_cases h3 : pv l (1 + after f) < small f
        · right; rw [num_less h0 h1 hf h2 h3]; simp
        · left
          have e := num_whole h0 h1 hf h2 h3
          exact ⟨by rw [e], by intro e; subst e; simp at h0, f, by omega, by omega, by omega, by omega, e, by omega, by omega⟩
  · right
    have : l = [] := List.eq_nil_of_length_eq_zero (by omega)
    subst this
    simp [num]
theorem num_u64 (l : List UInt8) : U64 (num l).1 := by
  rcases num_cases l with ⟨_, _, f, hf, h1, h2, h3, e, _, _⟩ | ⟨_, h, _⟩
  · rw [e]
    unfold U64
    rcases (by omega : f = 0 ∨ f = 1 ∨ f = 2 ∨ f = 3) with rfl | rfl | rfl | rfl
    · have := pv_lt l 0; show pv l (0 + 1) < 2 ^ 64; omega
    · have := pv_lt l 1; show pv l (1 + 1) < 2 ^ 64; omega
    · have := pv_lt l 3; show pv l (3 + 1) < 2 ^ 64; omega
    · have := pv_lt9 l (by omega) 8; show pv l (8 + 1) < 2 ^ 64; omega
  · rw [h]; unfold U64; omega
theorem num_size (l : List UInt8) : (num l).2.1 ≤ l.length := by
  rcases num_cases l with ⟨_, _, f, hf, h1, h2, h3, e, hl, _⟩ | ⟨_, _, h⟩
  · rw [e]; exact hl
  · rw [h]; omega
theorem num_size9 (l : List UInt8) : (num l).2.1 ≤ 9 := by
  rcases num_cases l with ⟨_, _, f, hf, h1, h2, h3, e, hl, _⟩ | ⟨_, _, h⟩
  · rw [e]
    rcases (by omega : f = 0 ∨ f = 1 ∨ f = 2 ∨ f = 3) with rfl | rfl | rfl | rfl <;> simp [after]
  · rw [h]; omega
theorem num_err (l : List UInt8) (h : (num l).2.2 ≠ 0) : (num l).1 = 0 ∧ (num l).2.1 = 0 := by
  rcases num_cases l with ⟨h0, _⟩ | ⟨_, h1, h2⟩
  · exact absurd h0 h
  · exact ⟨h1, h2⟩
theorem txt_bad {l : List UInt8} {most : Int} (h : (num l).2.2 ≠ 0) : txt l most = ([], 0, (num l).2.2) := by unfold txt; rw [if_pos h]
theorem txt_long {l : List UInt8} {most : Int} (h : (num l).2.2 = 0) (h2 : most < 0 ∨ most < ((num l).1 : Int)) : txt l most = ([], 0, 3) := by unfold txt; rw [if_neg (by omega), if_pos h2]
theorem txt_short {l : List UInt8} {most : Int} (h : (num l).2.2 = 0) (h2 : ¬ (most < 0 ∨ most < ((num l).1 : Int))) (h3 : l.length - (num l).2.1 < (num l).1) : txt l most = ([], 0, 2) := by unfold txt; rw [if_neg (by omega), if_neg h2, if_pos h3]
theorem txt_whole {l : List UInt8} {most : Int} (h : (num l).2.2 = 0) (h2 : ¬ (most < 0 ∨ most < ((num l).1 : Int))) (h3 : ¬ l.length - (num l).2.1 < (num l).1) : txt l most = ((l.drop (num l).2.1).take (num l).1, (num l).2.1 + (num l).1, 0) := by unfold txt; rw [if_neg (by omega), if_neg h2, if_neg h3]
theorem txt_size (l : List UInt8) (most : Int) : (txt l most).2.1 ≤ l.length := by
  have := num_size l
  unfold txt
  split
  · simp
  · split
    · simp
    · split
      · simp
      · simp only; omega
end Go.Proofs.Ytdjnjhlcdcmeaaa.Ty
