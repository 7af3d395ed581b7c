/-
  Contracts of package bits: 'get', 'check' and the library's Len64.
-/
import Derived.Test.YtkbkhohknniibaaB2
import Derived.Lib.BitFns
namespace Go.Proofs.Ytkbkhohknniibaa
open Go.RowKit
theorem Bt.wraps_u64 (n : Int) (h₀ : 0 ≤ n) (h₁ : n < 2 ^ 64) : IntKind.u64.wrap n = n := by rw [IntKind.wrap_u64]; omega
theorem Bt.or64 (m b r k : Nat) (hm : m < 2 ^ 64) (hb : b < 256) :
    bits .or .u64 (m : Int) (IntKind.u64.wrap (IntKind.u64.wrap ((b : Int) / 2 ^ r) * 2 ^ k)) = ((m ||| (b / 2 ^ r * 2 ^ k % 2 ^ 64) : Nat) : Int) := by
  have e1 : (b : Int) / 2 ^ r = ((b / 2 ^ r : Nat) : Int) := by simp
  have hx : b / 2 ^ r < 256 := Nat.lt_of_le_of_lt (Nat.div_le_self _ _) hb
  rw [e1, Bt.wraps_u64 ((b / 2 ^ r : Nat) : Int) (Int.natCast_nonneg _) (Int.lt_trans (Int.ofNat_lt.2 hx) (by decide))]
  have e2 : ((b / 2 ^ r : Nat) : Int) * 2 ^ k = ((b / 2 ^ r * 2 ^ k : Nat) : Int) := by simp
  rw [e2, IntKind.wrap_u64]
  have e3 : ((b / 2 ^ r * 2 ^ k : Nat) : Int) % 18446744073709551616 = ((b / 2 ^ r * 2 ^ k % 2 ^ 64 : Nat) : Int) := by omega
  rw [e3, (bits_nat .u64 64 (by decide) Bt.wraps_u64 _ _ hm (Nat.mod_lt _ (Nat.two_pow_pos _))).2]
theorem Bt.and64 (m n : Nat) (hm : m < 2 ^ 64) (hn : n ≤ 64) :
    bits .and .u64 (m : Int) (IntKind.u64.wrap (IntKind.u64.wrap (2 ^ n) - 1)) = ((m &&& (2 ^ n - 1) : Nat) : Int) := by
  have h1 : 2 ^ n - 1 < 2 ^ 64 := Nat.lt_of_lt_of_le (Nat.sub_lt (Nat.two_pow_pos _) (by decide)) (Nat.pow_le_pow_right (by decide) hn)
  have e : IntKind.u64.wrap (IntKind.u64.wrap (2 ^ n) - 1) = ((2 ^ n - 1 : Nat) : Int) := by
    have hp := Nat.two_pow_pos n
    have e0 : (2 : Int) ^ n = ((2 ^ n : Nat) : Int) := by simp
    rw [e0]
    by_cases h : n = 64
    · subst h
      rw [IntKind.wrap_u64, IntKind.wrap_u64]
      decide
    · have h2 : 2 ^ n ≤ 2 ^ 63 := Nat.pow_le_pow_right (by decide) (by omega)
      have e1 : IntKind.u64.wrap ((2 ^ n : Nat) : Int) = ((2 ^ n : Nat) : Int) := Bt.wraps_u64 _ (by omega) (by omega)
      rw [e1, Bt.wraps_u64 _ (by omega) (by omega)]
      omega
  rw [e, (bits_nat .u64 64 (by decide) Bt.wraps_u64 _ _ hm h1).1]
theorem Bt.reti {k : IntKind} {x y : Int} (h : x = y) : Ending.returned (.int k x) = Ending.returned (.int k y) := by rw [h]
/-- How many bits: the table of 256 bytes. -/
theorem Bt.len8_all : ∀ x : Fin 256, Lib.len8 ((x.val : Nat) : Int) = ((bitLen x.val : Nat) : Int) := by decide +kernel
theorem Bt.len_end (k x : Nat) (hk : k ≤ 56) (h : x < 256) : wrap64 ((k : Int) + wrap64 (Lib.len8 ((x : Int) % 256))) = ((k + bitLen x : Nat) : Int) := by
  have e : (x : Int) % 256 = (x : Int) := by omega
  have e2 : Lib.len8 (x : Int) = ((bitLen x : Nat) : Int) := Bt.len8_all ⟨x, h⟩
  have h8 := bitLen_le8 x h
  have e3 : wrap64 ((bitLen x : Nat) : Int) = ((bitLen x : Nat) : Int) := IntWalk.wrap64_in _ (by omega)
  rw [e, e2, e3, IntWalk.wrap64_in _ (by omega)]
  simp
theorem Bt.len_end0 (x : Nat) (h : x < 256) : wrap64 (wrap64 (Lib.len8 ((x : Int) % 256))) = ((bitLen x : Nat) : Int) := by
  have := Bt.len_end 0 x (by decide) h
  simpa using this
end Go.Proofs.Ytkbkhohknniibaa
