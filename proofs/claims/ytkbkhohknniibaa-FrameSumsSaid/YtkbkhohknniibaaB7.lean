/-
  The document's answers for package bits: Untruths, bits as bytes, the same lists, which number fits, Width.
-/
import Derived.Test.YtkbkhohknniibaaB6
import Derived.BigQuiet
import Derived.Deep.QuietTactic
namespace Go.Proofs.Ytkbkhohknniibaa
open Go.RowKit
theorem Bt.Row.add {w : World} {g sz k q r : Nat} {T : Nat → Bool} (h : Bt.Row w g sz (Bt.tr k T)) (hT : T k = true) (hq : q = k / 8) (hr : r = k % 8) :
    Bt.Row (w.setCell ⟨g, q, none⟩ (.int .u8 ((((Bt.oct (Bt.tr k T) q : Nat) : Int) + 2 ^ r) % 256))) g sz (Bt.tr (k + 1) T) := by
  have e : (((Bt.oct (Bt.tr k T) q : Nat) : Int) + 2 ^ r) % 256 = ((Bt.oct (Bt.tr (k + 1) T) q : Nat) : Int) := by
    have h1 := Bt.tr_add T k hT
    have h2 := Bt.oct_lt (Bt.tr (k + 1) T) q
    rw [← hq, ← hr] at h1
    have e2 : (2 : Int) ^ r = ((2 ^ r : Nat) : Int) := by simp
    rw [e2]
    omega
  rw [e]
  refine World.rowIs.congr (World.rowIs.set h q _) fun i _ => ?_
  by_cases e : i = q
  · subst e
    rw [if_pos rfl]
  · rw [if_neg e, Bt.tr_far T k i (by rw [← hq]; exact e)]
theorem Bt.drewN_below (w : World) (n : Nat) : Below w.heap.size w (w.drewN n) := ⟨rfl, rfl, rfl, Nat.le_refl _, fun _ _ => rfl⟩
theorem Bt.fit_int (n q : Nat) (hq : q < 64) : decide ((n : Int) < IntKind.u64.wrap (2 ^ q)) = decide (bitLen n ≤ q) := by
  have e0 : (2 : Int) ^ q = ((2 ^ q : Nat) : Int) := by simp
  have h2 : 2 ^ q ≤ 2 ^ 63 := Nat.pow_le_pow_right (by decide) (by omega)
  have e1 : IntKind.u64.wrap ((2 ^ q : Nat) : Int) = ((2 ^ q : Nat) : Int) := Bt.wraps_u64 _ (Int.natCast_nonneg _) (by omega)
  rw [e0, e1, decide_eq_decide, bitLen_le]
  omega
end Go.Proofs.Ytkbkhohknniibaa
