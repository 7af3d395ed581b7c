/-
  The plain mathematics of package tally: bytes are ordered as numbers. No program.
-/
import Derived.Test.YtdjnjhlcdcmeaaaM1
import GoSem.Op.String
namespace Go.Proofs.Ytdjnjhlcdcmeaaa.Ty
theorem lt_ofNat8 (a b : Nat) (ha : a < 256) (hb : b < 256) : (UInt8.ofNat a < UInt8.ofNat b) ↔ a < b := by
  rw [UInt8.lt_iff_toNat_lt, toNat_ofNat8 a ha, toNat_ofNat8 b hb]
theorem less_cons {a b : UInt8} {x y : List UInt8} (h : a < b) : Op.bytesLess (a :: x) (b :: y) = true := by simp [Op.bytesLess, h]
theorem less_same {a : UInt8} {x y : List UInt8} (h : Op.bytesLess x y = true) : Op.bytesLess (a :: x) (a :: y) = true := by simp [Op.bytesLess, h]
theorem less_irrefl : ∀ l : List UInt8, Op.bytesLess l l = false
  | [] => rfl
  | a :: l => by simp [Op.bytesLess, less_irrefl l]
theorem mod_split (n P : Nat) : n % (256 * P) = n / P % 256 * P + n % P := by
  rw [Nat.mul_comm 256 P, Nat.mod_mul, Nat.add_comm, Nat.mul_comm]
theorem low_less : ∀ (k a b : Nat), a % 256 ^ k < b % 256 ^ k → Op.bytesLess (low k a) (low k b) = true
  | 0, a, b, h => by simp [Nat.mod_one] at h
  | k + 1, a, b, h => by
    have hP : 0 < 256 ^ k := Nat.pow_pos (by omega)
    rw [Nat.pow_succ, Nat.mul_comm (256 ^ k) 256, mod_split a, mod_split b] at h
    have ra := Nat.mod_lt a hP
    have rb := Nat.mod_lt b hP
    have da := Nat.mod_lt (a / 256 ^ k) (by omega : 0 < 256)
    have db := Nat.mod_lt (b / 256 ^ k) (by omega : 0 < 256)
    rw [low_succ, low_succ]
    rcases Nat.lt_trichotomy (a / 256 ^ k % 256) (b / 256 ^ k % 256) with hl | he | hg
    · exact less_cons ((lt_ofNat8 _ _ da db).2 hl)
    · rw [he]
      rw [he] at h
      exact less_same (low_less k a b (by omega))
    · exfalso
      have := Nat.mul_le_mul_right (256 ^ k) (show b / 256 ^ k % 256 + 1 ≤ a / 256 ^ k % 256 by omega)
      rw [Nat.add_mul, Nat.one_mul] at this
      omega
theorem head_is (n : Nat) : (head n).toNat = 64 * form n + (if form n = 3 then 0 else n / 256 ^ after (form n)) ∧ (form n ≠ 3 → n / 256 ^ after (form n) < 64) := by
  rcases form_is n with ⟨h1, h⟩ | ⟨_, h1, h⟩ | ⟨_, h1, h⟩ | ⟨_, h⟩
  · have e : n / 256 ^ 0 = n := by simp
    refine ⟨?_, fun _ => by rw [h]; show n / 256 ^ 0 < 64; omega⟩
    unfold head
    rw [h, toNat_ofNat8 _ (by rw [if_neg (by omega)]; show 64 * 0 + n / 256 ^ 0 < 256; omega)]
  · have e : (256 : Nat) ^ 1 = 256 := by decide
    refine ⟨?_, fun _ => by rw [h]; show n / 256 ^ 1 < 64; omega⟩
    unfold head
    rw [h, toNat_ofNat8 _ (by rw [if_neg (by omega)]; show 64 * 1 + n / 256 ^ 1 < 256; omega)]
  · have e : (256 : Nat) ^ 3 = 16777216 := by decide
    refine ⟨?_, fun _ => by rw [h]; show n / 256 ^ 3 < 64; omega⟩
    unfold head
    rw [h, toNat_ofNat8 _ (by rw [if_neg (by omega)]; show 64 * 2 + n / 256 ^ 3 < 256; omega)]
  · refine ⟨?_, fun hh => absurd h hh⟩
    unfold head
    rw [h, toNat_ofNat8 _ (by rw [if_pos rfl]; omega)]
theorem encU_less (x y : Nat) (hx : U64 x) (hy : U64 y) (h : x < y) (hf : form x = form y) : Op.bytesLess (encU x) (encU y) = true := by
  have h1 := head_is x
  have h2 := head_is y
  unfold encU
  by_cases h3 : form x = 3
  · have e : head x = head y := UInt8.toNat_inj.1 (by rw [h1.1, h2.1, ← hf, h3]; rfl)
    rw [e, ← hf, h3]
    refine less_same (low_less 8 x y ?_)
    have e8 : (256 : Nat) ^ 8 = 18446744073709551616 := by decide
    unfold U64 at hx hy
    rw [Nat.mod_eq_of_lt (by omega), Nat.mod_eq_of_lt (by omega)]
    exact h
  · have hP : 0 < 256 ^ after (form x) := Nat.pow_pos (by omega)
    have a1 := h1.1
    have a2 := h2.1
    rw [if_neg h3] at a1
    rw [← hf, if_neg h3] at a2
    have hle : x / 256 ^ after (form x) ≤ y / 256 ^ after (form x) := Nat.div_le_div_right (by omega)
    rcases Nat.lt_or_eq_of_le hle with hl | he
    · exact less_cons (UInt8.lt_iff_toNat_lt.2 (by omega))
    · have e : head x = head y := UInt8.toNat_inj.1 (by omega)
      rw [e, ← hf]
      refine less_same (low_less _ x y ?_)
      have q1 := Nat.div_add_mod x (256 ^ after (form x))
      have q2 := Nat.div_add_mod y (256 ^ after (form x))
      rw [← he] at q2
      omega
theorem form_mono (x y : Nat) (h : x < y) : form x ≤ form y := by
  rcases form_is x with ⟨_, a⟩ | ⟨_, _, a⟩ | ⟨_, _, a⟩ | ⟨_, a⟩ <;> rcases form_is y with ⟨_, b⟩ | ⟨_, _, b⟩ | ⟨_, _, b⟩ | ⟨_, b⟩ <;> rw [a, b] <;> omega
theorem encU_order (x y : Nat) (hx : U64 x) (hy : U64 y) (h : x < y) : encU x ≠ encU y ∧ ((encU x).length < (encU y).length ∨ ((encU x).length = (encU y).length ∧ Op.bytesLess (encU x) (encU y) = true)) := by
  rcases Nat.lt_or_eq_of_le (form_mono x y h) with hl | he
  · have hlen : (encU x).length < (encU y).length := by
      rw [encU_length, encU_length]
      have := form_le y
      rcases (by omega : (form x = 0 ∧ form y = 1) ∨ (form x = 0 ∧ form y = 2) ∨ (form x = 0 ∧ form y = 3) ∨ (form x = 1 ∧ form y = 2) ∨ (form x = 1 ∧ form y = 3) ∨ (form x = 2 ∧ form y = 3)) with ⟨a, b⟩ | ⟨a, b⟩ | ⟨a, b⟩ | ⟨a, b⟩ | ⟨a, b⟩ | ⟨a, b⟩ <;> rw [a, b] <;> decide
    exact ⟨fun e => by rw [e] at hlen; omega, .inl hlen⟩
  · have hb := encU_less x y hx hy h he
    exact ⟨fun e => (by rw [e, less_irrefl] at hb; cases hb), .inr ⟨by rw [encU_length, encU_length, he], hb⟩⟩
theorem encU_inj (x y : Nat) (hx : U64 x) (hy : U64 y) (h : encU x = encU y) : x = y := by
  rcases Nat.lt_trichotomy x y with hl | he | hg
  · exact absurd h (encU_order x y hx hy hl).1
  · exact he
  · exact absurd h.symm (encU_order y x hy hx hg).1
end Go.Proofs.Ytdjnjhlcdcmeaaa.Ty
