/-
  An argument of the laws of frame opened: a slice of strings, with what its texts' frames have together.
-/
import Derived.Test.YtkbkhohknniibaaTO
import Derived.Test.YtkbkhohknniibaaF2
namespace Go.Proofs.Ytkbkhohknniibaa
open Go.RowKit Go.ChangeShapes Go.WideShapes Go.ChangeAt Go.Deep
section
variable {H : Type} {enc : TypeId × Value → H} {W : World}
/-- A string's letters. -/
def Fr.letters : DataW H → Fr.Str
  | .lit (.string b) => b
  | _ => []
theorem Fr.letters_le (d : DataW H) : (Fr.letters d).length + 8 ≤ 8 * Rows.uptoBulk d := by
  unfold Fr.letters
  split
  · simp only [Rows.uptoBulk]; omega
  · have : 1 ≤ Rows.uptoBulk d := by
      unfold Rows.uptoBulk
      split <;> omega
    simp only [List.length_nil]
    omega
theorem Fr.letters_all : ∀ ds : List (DataW H), Fr.size (ds.map Fr.letters) ≤ 8 * Rows.uptoBulkAll ds
  | [] => by simp [Fr.size]
  | d :: ds => by
    have h1 := Fr.letters_le d
    have h2 := Fr.letters_all ds
    simp only [Fr.size, List.map_cons, List.sum_cons, Rows.uptoBulkAll] at h2 ⊢
    omega
/-- A slice of strings. -/
theorem Fr.opened {a0 : Option Addr} {len cap : Nat} {d : DataW H} {ps : List MemPlace} (h : DataW.Trod enc Try.prog W 0 (fun _ => true) true 27 (.slice a0 len cap) d ps) :
    ∃ L : List Fr.Str, L.length = len ∧ Tx.At W.heap.size W (.slice a0 len cap) L ∧ Fr.size L ≤ 8 * Rows.uptoBulk d := by
  obtain ⟨fuel, hf⟩ := h
  have hC : Try.prog.cellsOf 9 = 1 := by kernel_rfl
  rcases open_slice Try.underlying27 hf with ⟨hcs, hx⟩ | ⟨a, len', cap', m, n, D, Pl, hcs, _, hl, hm, hmm, hx, hi⟩
  · have hv : Value.slice a0 len cap = .slice none 0 0 := by simpa [Value.cells] using hcs
    simp only [Value.slice.injEq] at hv
    obtain ⟨rfl, rfl, rfl⟩ := hv
    exact ⟨[], rfl, Tx.At.nil W, by simp [Fr.size]⟩
  · have hv : Value.slice a0 len cap = .slice (some a) len' cap' := by simpa [Value.cells] using hcs
    simp only [Value.slice.injEq] at hv
    obtain ⟨rfl, rfl, rfl⟩ := hv
    simp only [if_true] at hmm
    rw [hC] at hi
    simp only [Prod.mk.injEq] at hx
    have hL : ∀ i, i < len → W.cell? (a.add i) = some (Tx.sv ((List.range len).map fun i => Fr.letters (D i)) i) := fun i hil => by
      obtain ⟨cs', hc, ht⟩ := hi i (by omega)
      obtain ⟨hcl, _, hat⟩ := World.cells?_some hc
      match cs', hcl with
      | [c0], _ =>
        obtain ⟨s, e2, e3, _⟩ := DataW.trod_string Try.underlying9 ht
        simp only [List.cons.injEq, and_true] at e2
        subst e2
        have a0 := hat 0 (by omega)
        rw [add_add] at a0
        simp only [Nat.mul_one, Nat.add_zero] at a0
        unfold Tx.sv
        rw [List.getD_eq_getElem?_getD, List.getElem?_map, List.getElem?_range hil]
        simp only [Prod.mk.injEq] at e3
        simp only [Option.map_some, Option.getD_some, e3.1, Fr.letters]
        exact a0
    have hsl := Bt.sl_of (W := W) (a := a) (len := len) (cap := cap) (f := Tx.sv _) hL
    refine ⟨(List.range len).map fun i => Fr.letters (D i), by simp, ?_, ?_⟩
    · obtain ⟨a2, c2, e, h2⟩ := hsl
      simp only [Value.slice.injEq] at e
      obtain ⟨rfl, _, rfl⟩ := e
      refine ⟨some a, cap, by simp, by simpa using hl, Nat.le_refl _, ?_⟩
      rcases h2 with h2 | ⟨b, o, e2, hlt, h2⟩
      · exact .inl ⟨List.eq_nil_of_length_eq_zero (by simpa using h2), fun e => by cases e⟩
      · exact .inr ⟨b, o, e2, hlt, fun i hi => h2 i (by simpa using hi)⟩
    · rw [hx.1]
      have := Fr.letters_all ((List.range len).map D)
      rw [List.map_map] at this
      simp only [Rows.uptoBulk]
      have e : (List.range len).map (fun i => Fr.letters (D i)) = (List.range len).map (Fr.letters ∘ D) := rfl
      rw [e]
      omega
end
end Go.Proofs.Ytkbkhohknniibaa
