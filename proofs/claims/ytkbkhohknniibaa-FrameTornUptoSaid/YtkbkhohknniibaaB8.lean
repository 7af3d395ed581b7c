/-
  The document's answers for package bits: Pack, Unpack.
-/
import Derived.Test.YtkbkhohknniibaaB7
namespace Go.Proofs.Ytkbkhohknniibaa
open Go.RowKit
/-- The bits of numbers of q bits, one behind the other. -/
def Bt.flat (X : Nat → Nat) (q x : Nat) : Bool := (X (x / q)).testBit (x % q)
theorem Bt.flat_at (X : Nat → Nat) (q k j : Nat) (hj : j < q) : Bt.flat X q (k * q + j) = (X k).testBit j := by
  obtain ⟨d, m⟩ := Bt.div_mid (i := k) hj
  unfold Bt.flat
  rw [d, m]
theorem Bt.packV_bad {n : Nat} {X : Nat → Nat} {q k : Nat} (hq : q ≤ 64) (hk : k < n) (hb : ¬ bitLen (X k) ≤ q) : Bt.packV n X (q : Int) = .tuple #[.string ⟨#[]⟩, .int .i64 4] := by
  unfold Bt.packV
  rw [if_pos (by omega), if_pos ?_]
  rcases Nat.lt_or_ge q (Bt.wid n X) with h | h
  · simpa using h
  · exact absurd ((bitLen_le _ _).2 ((Bt.wid_le n X q).1 h k hk)) hb
theorem Bt.packV_good {n : Nat} {X : Nat → Nat} {q : Nat} (hq : q ≤ 64) (h : ∀ i, i < n → bitLen (X i) ≤ q) : Bt.packV n X (q : Int) = .tuple #[.string (Bt.bytes (Bt.need (n * q)) (Bt.tr (n * q) (Bt.flat X q))), .int .i64 0] := by
  unfold Bt.packV
  rw [if_pos (by omega), if_neg ?_]
  · rfl
  · have := (Bt.wid_le n X q).2 fun i hi => (bitLen_le _ _).1 (h i hi)
    simpa using this
theorem Bt.num_step (s : ByteArray) (p j : Nat) (hj : j < 64) (hb : Bt.bit s (p + j) = true) : IntKind.u64.wrap (((Bt.num j (fun t => Bt.bit s (p + t)) : Nat) : Int) + IntKind.u64.wrap (2 ^ j)) = ((Bt.num (j + 1) (fun t => Bt.bit s (p + t)) : Nat) : Int) := by
  have h1 := Bt.num_lt (j + 1) (fun t => Bt.bit s (p + t))
  have h2 : 2 ^ (j + 1) ≤ 2 ^ 64 := Nat.pow_le_pow_right (by decide) (by omega)
  have e0 : (2 : Int) ^ j = ((2 ^ j : Nat) : Int) := by simp
  have h3 : 2 ^ j ≤ 2 ^ 63 := Nat.pow_le_pow_right (by decide) (by omega)
  have e1 : IntKind.u64.wrap ((2 ^ j : Nat) : Int) = ((2 ^ j : Nat) : Int) := Bt.wraps_u64 _ (Int.natCast_nonneg _) (by omega)
  have e2 : Bt.num (j + 1) (fun t => Bt.bit s (p + t)) = Bt.num j (fun t => Bt.bit s (p + t)) + 2 ^ j := by
    show Bt.num j (fun t => Bt.bit s (p + t)) + (Bt.bit s (p + j)).toNat * 2 ^ j = _
    rw [hb]; simp
  rw [e2] at h1
  rw [e0, e1, e2]
  rw [Bt.wraps_u64 _ (by omega) (by omega)]
  omega
theorem Bt.num_skip (s : ByteArray) (p j : Nat) (hb : Bt.bit s (p + j) = false) : Bt.num (j + 1) (fun t => Bt.bit s (p + t)) = Bt.num j (fun t => Bt.bit s (p + t)) := by
  show Bt.num j (fun t => Bt.bit s (p + t)) + (Bt.bit s (p + j)).toNat * 2 ^ j = _
  rw [hb]; simp
end Go.Proofs.Ytkbkhohknniibaa
