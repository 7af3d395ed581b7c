/-
  The mathematics of the walk of pick: one lemma for each way out; the marks of the strings that are used.
-/
import Derived.Test.YtkgmildbhelelaaDoorQ5
namespace Go.Proofs.YtkgmildbhelelaaDoor
open Go.RowKit
open Ty (encU num txt)
open Tx (restT rdWords rdPick outs)
open Ig (un)
theorem Tx.rdPk1 {n : Nat} {d : List Tx.Str} : rdPick n d [] = (2, [], []) := rfl
theorem Tx.rdPk2 {n : Nat} {d : List Tx.Str} {b : UInt8} {r : List UInt8} (h : 64 < b.toNat) : (rdPick n d (b :: r)).1 = 4 := by
  unfold rdPick
  simp only
  rw [if_pos h]
theorem Tx.rdPk3 {n : Nat} {d : List Tx.Str} {b : UInt8} {r : List UInt8} (h : ¬ 64 < b.toNat) (h2 : r.length < Bt.need (n * b.toNat)) : (rdPick n d (b :: r)).1 = 2 := by
  unfold rdPick
  simp only
  rw [if_neg h, if_pos h2]
theorem Tx.rdPk4 {n : Nat} {d : List Tx.Str} {b : UInt8} {r : List UInt8} (h : ¬ 64 < b.toNat) (h2 : ¬ r.length < Bt.need (n * b.toNat)) (h3 : Bt.chk (Ty.S (r.take (Bt.need (n * b.toNat)))) (n * b.toNat) ≠ 0) : (rdPick n d (b :: r)).1 = Bt.chk (Ty.S (r.take (Bt.need (n * b.toNat)))) (n * b.toNat) := by
  have h3' : Bt.chk ⟨(r.take (Bt.need (n * b.toNat))).toArray⟩ (n * b.toNat) ≠ 0 := h3
  unfold rdPick
  simp only
  rw [if_neg h, if_neg h2, if_pos h3']
  rfl
theorem Tx.rdPk5 {n : Nat} {d : List Tx.Str} {b : UInt8} {r : List UInt8} (h : ¬ 64 < b.toNat) (h2 : ¬ r.length < Bt.need (n * b.toNat)) (h3 : Bt.chk (Ty.S (r.take (Bt.need (n * b.toNat)))) (n * b.toNat) = 0) (h4 : ¬ Tx.right n b.toNat d (un (Ty.S (r.take (Bt.need (n * b.toNat)))) b.toNat) = true) : (rdPick n d (b :: r)).1 = 4 := by
  have h3' : ¬ Bt.chk ⟨(r.take (Bt.need (n * b.toNat))).toArray⟩ (n * b.toNat) ≠ 0 := fun e => e h3
  have h4' : ¬ Tx.right n b.toNat d (un ⟨(r.take (Bt.need (n * b.toNat))).toArray⟩ b.toNat) = true := h4
  unfold rdPick
  simp only
  rw [if_neg h, if_neg h2, if_neg h3', if_neg h4']
theorem Tx.rdPk6 {n : Nat} {d : List Tx.Str} {b : UInt8} {r : List UInt8} (h : ¬ 64 < b.toNat) (h2 : ¬ r.length < Bt.need (n * b.toNat)) (h3 : Bt.chk (Ty.S (r.take (Bt.need (n * b.toNat)))) (n * b.toNat) = 0) (h4 : Tx.right n b.toNat d (un (Ty.S (r.take (Bt.need (n * b.toNat)))) b.toNat) = true) : rdPick n d (b :: r) = (0, outs n d (un (Ty.S (r.take (Bt.need (n * b.toNat)))) b.toNat), r.drop (Bt.need (n * b.toNat))) := by
  have h3' : ¬ Bt.chk ⟨(r.take (Bt.need (n * b.toNat))).toArray⟩ (n * b.toNat) ≠ 0 := fun e => e h3
  have h4' : Tx.right n b.toNat d (un ⟨(r.take (Bt.need (n * b.toNat))).toArray⟩ b.toNat) = true := h4
  unfold rdPick
  simp only
  rw [if_neg h, if_neg h2, if_neg h3', if_pos h4']
  rfl
/-- Is string j used by one of the first k indices? -/
def Tx.mark (X : Nat → Nat) (k j : Nat) : Bool := (List.range k).any fun i => X i == j
theorem Tx.mark_zero (X : Nat → Nat) (j : Nat) : Tx.mark X 0 j = false := rfl
theorem Tx.mark_next (X : Nat → Nat) (k j : Nat) : Tx.mark X (k + 1) j = (Tx.mark X k j || X k == j) := by
  unfold Tx.mark
  rw [List.range_succ, List.any_append]
  simp
theorem Tx.mark_self (X : Nat → Nat) (k : Nat) : Tx.mark X (k + 1) (X k) = true := by rw [Tx.mark_next]; simp
theorem Tx.mark_other (X : Nat → Nat) (k j : Nat) (h : X k ≠ j) : Tx.mark X (k + 1) j = Tx.mark X k j := by
  rw [Tx.mark_next]
  simp [h]
theorem Tx.right_iff {n w : Nat} {d : List Tx.Str} {X : Nat → Nat} : Tx.right n w d X = true ↔ (∀ i, i < n → X i < d.length) ∧ (∀ j, j < d.length → Tx.mark X n j = true) ∧ Bt.wid n X = w := by
  unfold Tx.right Tx.mark
  simp only [Bool.and_eq_true, List.all_eq_true, List.mem_range, decide_eq_true_iff, beq_iff_eq]
/-- The elements so far. -/
theorem Tx.outs_next (n : Nat) (d : List Tx.Str) (X : Nat → Nat) : outs (n + 1) d X = outs n d X ++ [d.getD (X n) []] := by
  unfold outs
  rw [List.range_succ, List.map_append]
  rfl
theorem Tx.outs_len (n : Nat) (d : List Tx.Str) (X : Nat → Nat) : (outs n d X).length = n := by simp [outs]
end Go.Proofs.YtkgmildbhelelaaDoor
