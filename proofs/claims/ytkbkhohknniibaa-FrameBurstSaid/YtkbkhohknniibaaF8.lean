/-
  Bits of a list of bytes turned one after the other (mathematics).
-/
import Derived.Test.YtkbkhohknniibaaF7
namespace Go.Proofs.Ytkbkhohknniibaa
theorem Fr.Turned.refl (l : List UInt8) (p : Nat) : Fr.Turned l l p 0 := ⟨rfl, fun i _ => by simp⟩
theorem Fr.getD_set (m : List UInt8) (j q : Nat) (x : UInt8) (h : j < m.length) : (m.set j x).getD q 0 = if q = j then x else m.getD q 0 := by
  rw [List.getD, List.getD, List.getElem?_set]
  by_cases e : j = q
  · subst e
    rw [if_pos rfl, if_pos h, if_pos rfl]
    rfl
  · rw [if_neg e, if_neg (fun h => e h.symm)]
/-- One more bit. -/
theorem Fr.Turned.step {l m : List UInt8} {p B i : Nat} (h : Fr.Turned l m p B) (hB : B < 2 ^ i) (hk : p + i < 8 * l.length) :
    Fr.Turned l (m.set ((p + i) / 8) (m.getD ((p + i) / 8) 0 ^^^ UInt8.ofNat (2 ^ ((p + i) % 8)))) p (B + 2 ^ i) := by
  obtain ⟨hm, h⟩ := h
  refine ⟨by rw [List.length_set, hm], fun q hq => ?_⟩
  obtain ⟨k, hke⟩ : ∃ k, k = p + i := ⟨_, rfl⟩
  rw [← hke] at hk ⊢
  have hb : (B + 2 ^ i).testBit (q - p) = if q - p < i then B.testBit (q - p) else (1 : Nat).testBit (q - p - i) := by
    have := Nat.testBit_two_pow_mul_add 1 hB (q - p)
    rwa [Nat.mul_one, Nat.add_comm] at this
  have h2 : 2 ^ (k % 8) < 256 := Nat.pow_lt_pow_right (show 1 < 2 by omega) (show k % 8 < 8 by omega)
  have hx : (m.getD (k / 8) 0 ^^^ UInt8.ofNat (2 ^ (k % 8))).toNat = (m.getD (k / 8) 0).toNat ^^^ 2 ^ (k % 8) := by
    rw [UInt8.toNat_xor, UInt8.toNat_ofNat', Nat.mod_eq_of_lt h2]
  rw [Fr.getD_set m _ _ _ (by omega), hb]
  have hq0 := h q hq
  have hBi : ∀ j, i ≤ j → B.testBit j = false := fun j hj => Nat.testBit_lt_two_pow (Nat.lt_of_lt_of_le hB (Nat.pow_le_pow_right (by omega) hj))
  by_cases e : q = k
  · subst e
    rw [if_pos rfl, hx, Nat.testBit_xor, hq0, Nat.testBit_two_pow_self, show q - p = i by omega, if_neg (by omega), Nat.sub_self, hBi i (Nat.le_refl _)]
    have hd : decide (p ≤ q) = true := by rw [decide_eq_true_iff]; omega
    rw [hd]
    simp
  · have hR : (decide (p ≤ q) && (if q - p < i then B.testBit (q - p) else (1 : Nat).testBit (q - p - i))) = (decide (p ≤ q) && B.testBit (q - p)) := by
      by_cases hp : p ≤ q
      · congr 1
        by_cases hi : q - p < i
        · rw [if_pos hi]
        · rw [if_neg hi, hBi _ (by omega)]
          have h1 : 1 ≤ q - p - i := by omega
          exact Nat.testBit_lt_two_pow (Nat.lt_of_lt_of_le (show 1 < 2 ^ 1 by decide) (Nat.pow_le_pow_right (by omega) h1))
      · rw [decide_eq_false hp, Bool.false_and, Bool.false_and]
    rw [hR]
    by_cases e2 : q / 8 = k / 8
    · rw [if_pos e2, hx, Nat.testBit_xor, Nat.testBit_two_pow_of_ne (show k % 8 ≠ q % 8 by omega), ← e2, hq0, Bool.xor_false]
    · rw [if_neg e2]
      exact hq0
theorem Fr.mod_next (X i : Nat) : X % 2 ^ (i + 1) = X % 2 ^ i + 2 ^ i * (X / 2 ^ i % 2) := Nat.mod_pow_succ
theorem Fr.mod_set {X i : Nat} (h : X / 2 ^ i % 2 = 1) : X % 2 ^ (i + 1) = X % 2 ^ i + 2 ^ i := by rw [Fr.mod_next, h, Nat.mul_one]
theorem Fr.mod_not {X i : Nat} (h : X / 2 ^ i % 2 = 0) : X % 2 ^ (i + 1) = X % 2 ^ i := by rw [Fr.mod_next, h, Nat.mul_zero, Nat.add_zero]
end Go.Proofs.Ytkbkhohknniibaa
