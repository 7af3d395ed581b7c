/-
  An argument of the laws of texts opened: a slice of strings that came in.
-/
import Derived.Test.YtkbkhohknniibaaBO
import Derived.Test.YtkbkhohknniibaaQ1
namespace Go.Proofs.Ytkbkhohknniibaa
open Go.RowKit Go.ChangeShapes Go.WideShapes Go.ChangeAt Go.Deep
section
variable {H : Type} {enc : TypeId × Value → H} {W : World}
/-- A slice of strings. -/
theorem Tx.opened {a0 : Option Addr} {len cap : Nat} {d : DataW H} {ps : List MemPlace} (h : DataW.Trod enc Try.prog W 0 (fun _ => true) true 27 (.slice a0 len cap) d ps) :
    ∃ L : List Tx.Str, L.length = len ∧ Tx.At W.heap.size W (.slice a0 len cap) L ∧ Bt.Long d len := by
  obtain ⟨fuel, hf⟩ := h
  have hC : Try.prog.cellsOf 9 = 1 := by kernel_rfl
  rcases open_slice Try.underlying27 hf with ⟨hcs, hx⟩ | ⟨a, len', cap', m, n, D, Pl, hcs, _, hl, hm, hmm, hx, hi⟩
  · have hv : Value.slice a0 len cap = .slice none 0 0 := by simpa [Value.cells] using hcs
    simp only [Value.slice.injEq] at hv
    obtain ⟨rfl, rfl, rfl⟩ := hv
    simp only [Prod.mk.injEq] at hx
    exact ⟨[], rfl, Tx.At.nil W, .inl ⟨hx.1, rfl⟩⟩
  · have hv : Value.slice a0 len cap = .slice (some a) len' cap' := by simpa [Value.cells] using hcs
    simp only [Value.slice.injEq] at hv
    obtain ⟨rfl, rfl, rfl⟩ := hv
    simp only [if_true] at hmm
    have hlong : Bt.Long d len := by
      simp only [Prod.mk.injEq] at hx
      refine .inr ⟨_, _, hx.1, ?_⟩
      simp
    rw [hC] at hi
    have hone : ∀ i, i < len → ∃ x : Tx.Str, W.cell? (a.add i) = some (.string (Ty.S x)) := fun i hil => by
      obtain ⟨cs', hc, ht⟩ := hi i (by omega)
      obtain ⟨hcl, _, hat⟩ := World.cells?_some hc
      match cs', hcl with
      | [c0], _ =>
        obtain ⟨s, e2, _, _⟩ := DataW.trod_string Try.underlying9 ht
        simp only [List.cons.injEq, and_true] at e2
        subst e2
        have a0 := hat 0 (by omega)
        rw [add_add] at a0
        simp only [Nat.mul_one, Nat.add_zero] at a0
        exact ⟨s.data.toList, a0⟩
    have hch : ∃ L : List Tx.Str, L.length = len ∧ ∀ i, i < len → W.cell? (a.add i) = some (Tx.sv L i) := by
      refine ⟨(List.range len).map fun i => if hil : i < len then (hone i hil).choose else [], by simp, fun i hil => ?_⟩
      have hs := (hone i hil).choose_spec
      unfold Tx.sv
      rw [List.getD, List.getElem?_map, List.getElem?_range hil]
      simp only [Option.map_some, Option.getD_some, dif_pos hil]
      exact hs
    obtain ⟨L, hLl, hL⟩ := hch
    have hsl := Bt.sl_of (W := W) (a := a) (len := len) (cap := cap) (f := Tx.sv L) hL
    refine ⟨L, hLl, ?_, hlong⟩
    obtain ⟨a2, c2, e, h2⟩ := hsl
    simp only [Value.slice.injEq] at e
    obtain ⟨rfl, _, rfl⟩ := e
    refine ⟨_, cap, by rw [hLl], by omega, Nat.le_refl _, ?_⟩
    rcases h2 with h2 | ⟨b, o, e2, hlt, h2⟩
    · exact .inl ⟨List.eq_nil_of_length_eq_zero (by omega), fun e => by cases e⟩
    · exact .inr ⟨b, o, e2, hlt, fun i hi => h2 i (by omega)⟩
end
end Go.Proofs.Ytkbkhohknniibaa
