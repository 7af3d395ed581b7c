/-
  Contracts of package ints: the next bytes; what is right of packed differences.
-/
import Derived.Test.YtkgmildbhelelaaDoorI12
namespace Go.Proofs.YtkgmildbhelelaaDoor
open Go.RowKit
open Ig (nth encI encR grp diffs prv low off sg rest rdInts acc rdRuns spread outs good un)
open Ty (encU num)
theorem Ig.own_row {base : Nat} {w : World} {g n : Nat} {L : List Int} (h : w.rowIs g 2 n (Ig.iv L)) (hn : L.length = n) (hb : base ≤ g) (hm : n ≤ maxLen) : Ig.Own base w (.slice (some ⟨g, 0, none⟩) n n) L := by
  obtain ⟨c, hg, hc, hf⟩ := h
  subst hn
  refine ⟨by simp, .inr ⟨g, L.length, c, rfl, hb, hg, Nat.le_refl _, hm, by simpa using hc, ?_⟩⟩
  rw [Nat.mul_one]
  refine List.ext_getElem? fun j => ?_
  by_cases hj : j < L.length
  · rw [List.getElem?_take_of_lt hj, List.getElem?_map, List.getElem?_range hj, Array.getElem?_toList, hf j hj]
    rfl
  · rw [List.getElem?_eq_none (by rw [List.length_take]; omega), List.getElem?_eq_none (by simp; omega)]
theorem Ig.un_nums (s : ByteArray) (q : Nat) : un s q = Bt.nums s q := rfl
theorem Ig.low_zero {n : Nat} {x : Int} {X : Nat → Nat} (hn : 0 < n) (hX : ∀ i, X i < 2 ^ 64) (h : low (outs n x X) = x) : (List.range n).any (fun i => X i == 0) = true := by
  have hne : outs n x X ≠ [] := by
    intro e
    have := congrArg List.length e
    simp [outs] at this
    omega
  have hm := Ig.low_mem _ hne
  rw [h] at hm
  obtain ⟨i, hi, e⟩ := List.mem_map.1 hm
  refine List.any_eq_true.2 ⟨i, hi, ?_⟩
  have h2 := hX i
  unfold wrap64 at e
  rw [beq_iff_eq]
  omega
theorem Ig.good_is {n q : Nat} {x : Int} {X : Nat → Nat} (hn : 0 < n) (hX : ∀ i, X i < 2 ^ 64) : good n q x X = true ↔ Bt.wid n X = q ∧ low (outs n x X) = x := by
  unfold good
  simp only [Bool.and_eq_true, beq_iff_eq]
  constructor
  · rintro ⟨⟨_, h1⟩, h2⟩
    exact ⟨h1, h2⟩
  · rintro ⟨h1, h2⟩
    exact ⟨⟨Ig.low_zero hn hX h2, h1⟩, h2⟩
end Go.Proofs.YtkgmildbhelelaaDoor
