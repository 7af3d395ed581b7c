/-
  The document's answers for package ints: Read.
  The mathematics of the walk of pick: one lemma for each way out; the marks of the strings that are used.
  The document's answers for package texts: pick, where it fails ahead of the indices.
  The document's answers for package texts: pick, where the bytes are there.
-/
import Derived.Test.YtfbjmehkipcmbaaGreatDoorZAN
import Derived.Test.YtfbjmehkipcmbaaGreatDoorZAM
import Derived.Deep.RegionHeld3
import Derived.Deep.OwnRows
namespace Go.Proofs.YtfbjmehkipcmbaaGreatDoor
open Go.RowKit
open Ig (nth sg rest rd rdBody rdInts acc)
open Ty (num)
def Ig.ofK (K : Nat) (M : List Int) : List Int := if K = 0 then M else acc 0 M
def Ig.LoopR (K n : Nat) (l : List UInt8) (j : Nat) (M2 : List Int) (l2 : List UInt8) (er : Nat) : Prop :=
  (er = 0 ∧ ∃ M, Ig.Mid n l j M l2 ∧ M2 = Ig.ofK K M) ∨ (er ≠ 0 ∧ (rdInts n l).1 = er ∧ j ≤ n)
theorem Ig.LoopR.step {K n : Nat} {l : List UInt8} {j : Nat} {M : List Int} {l2 : List UInt8} (hM : Ig.Mid n l j M l2) (hj : j < n) {M3 : List Int} (h3 : M3 = Ig.ofK K (M ++ [sg l2])) : Ig.LoopR K n l (j + 1) M3 (rest l2) (num l2).2.2 := by
  by_cases h : (num l2).2.2 = 0
  · exact .inl ⟨h, _, hM.next hj h, h3⟩
  · exact .inr ⟨h, hM.fail hj h, by omega⟩
end Go.Proofs.YtfbjmehkipcmbaaGreatDoor

namespace Go.Proofs.YtfbjmehkipcmbaaGreatDoor
open Go.RowKit
open Ty (encU num txt)
open Tx (restT rdWords rdPick outs)
open Ig (un)
theorem Tx.rdPk1 {n : Nat} {d : List Tx.Str} : rdPick n d [] = (2, [], []) := rfl
theorem Tx.rdPk2 {n : Nat} {d : List Tx.Str} {b : UInt8} {r : List UInt8} (h : 64 < b.toNat) : (rdPick n d (b :: r)).1 = 4 := by
  unfold rdPick
  simp only
  rw [if_pos h]
theorem Tx.rdPk3 {n : Nat} {d : List Tx.Str} {b : UInt8} {r : List UInt8} (h : ¬ 64 < b.toNat) (h2 : r.length < Bt.need (n * b.toNat)) : (rdPick n d (b :: r)).1 = 2 := by
  unfold rdPick
  simp only
  rw [if_neg h, if_pos h2]
theorem Tx.rdPk4 {n : Nat} {d : List Tx.Str} {b : UInt8} {r : List UInt8} (h : ¬ 64 < b.toNat) (h2 : ¬ r.length < Bt.need (n * b.toNat)) (h3 : Bt.chk (Ty.S (r.take (Bt.need (n * b.toNat)))) (n * b.toNat) ≠ 0) : (rdPick n d (b :: r)).1 = Bt.chk (Ty.S (r.take (Bt.need (n * b.toNat)))) (n * b.toNat) := by
  have h3' : Bt.chk ⟨(r.take (Bt.need (n * b.toNat))).toArray⟩ (n * b.toNat) ≠ 0 := h3
  unfold rdPick
  simp only
  rw [if_neg h, if_neg h2, if_pos h3']
  rfl
theorem Tx.rdPk5 {n : Nat} {d : List Tx.Str} {b : UInt8} {r : List UInt8} (h : ¬ 64 < b.toNat) (h2 : ¬ r.length < Bt.need (n * b.toNat)) (h3 : Bt.chk (Ty.S (r.take (Bt.need (n * b.toNat)))) (n * b.toNat) = 0) (h4 : ¬ Tx.right n b.toNat d (un (Ty.S (r.take (Bt.need (n * b.toNat)))) b.toNat) = true) : (rdPick n d (b :: r)).1 = 4 := by
  have h3' : ¬ Bt.chk ⟨(r.take (Bt.need (n * b.toNat))).toArray⟩ (n * b.toNat) ≠ 0 := fun e => e h3
  have h4' : ¬ Tx.right n b.toNat d (un ⟨(r.take (Bt.need (n * b.toNat))).toArray⟩ b.toNat) = true := h4
  unfold rdPick
  simp only
  rw [if_neg h, if_neg h2, if_neg h3', if_neg h4']
theorem Tx.rdPk6 {n : Nat} {d : List Tx.Str} {b : UInt8} {r : List UInt8} (h : ¬ 64 < b.toNat) (h2 : ¬ r.length < Bt.need (n * b.toNat)) (h3 : Bt.chk (Ty.S (r.take (Bt.need (n * b.toNat)))) (n * b.toNat) = 0) (h4 : Tx.right n b.toNat d (un (Ty.S (r.take (Bt.need (n * b.toNat)))) b.toNat) = true) : rdPick n d (b :: r) = (0, outs n d (un (Ty.S (r.take (Bt.need (n * b.toNat)))) b.toNat), r.drop (Bt.need (n * b.toNat))) := by
  have h3' : ¬ Bt.chk ⟨(r.take (Bt.need (n * b.toNat))).toArray⟩ (n * b.toNat) ≠ 0 := fun e => e h3
  have h4' : Tx.right n b.toNat d (un ⟨(r.take (Bt.need (n * b.toNat))).toArray⟩ b.toNat) = true := h4
  unfold rdPick
  simp only
  rw [if_neg h, if_neg h2, if_neg h3', if_pos h4']
  rfl
def Tx.mark (X : Nat → Nat) (k j : Nat) : Bool := (List.range k).any fun i => X i == j
theorem Tx.right_iff {n w : Nat} {d : List Tx.Str} {X : Nat → Nat} : Tx.right n w d X = true ↔ (∀ i, i < n → X i < d.length) ∧ (∀ j, j < d.length → Tx.mark X n j = true) ∧ Bt.wid n X = w := by
  unfold Tx.right Tx.mark
  simp only [Bool.and_eq_true, List.all_eq_true, List.mem_range, decide_eq_true_iff, beq_iff_eq]
theorem Tx.outs_len (n : Nat) (d : List Tx.Str) (X : Nat → Nat) : (outs n d X).length = n := by simp [outs]
end Go.Proofs.YtfbjmehkipcmbaaGreatDoor

namespace Go.Proofs.YtfbjmehkipcmbaaGreatDoor
open Go.RowKit
open Ty (encU num txt)
open Tx (rdPick)
end Go.Proofs.YtfbjmehkipcmbaaGreatDoor

namespace Go.Proofs.YtfbjmehkipcmbaaGreatDoor
open Go.RowKit
open Ty (encU num txt)
open Tx (rdPick outs)
def Tx.mv (X : Nat → Nat) (k j : Nat) : Value := .bool (Tx.mark X k j)
theorem Tx.At.str {B n c : Nat} {w : World} {a : Option Addr} {L : List Tx.Str} (h : Tx.At B w (.slice a n c) L) {k : Nat} (hk : k < L.length) : ∃ b o, a = some ⟨b, o, none⟩ ∧ w.cell? ⟨b, o + k, none⟩ = some (.string (Ty.S (L.getD k []))) := by
  obtain ⟨a', c', e, _, _, h⟩ := h
  simp only [Value.slice.injEq] at e
  rcases h with ⟨h, _⟩ | ⟨b, o, ea, _, h⟩
  · rw [h] at hk; simp at hk
  · exact ⟨b, o, e.1.trans ea, h k hk⟩
end Go.Proofs.YtfbjmehkipcmbaaGreatDoor
