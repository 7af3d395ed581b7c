/-
  Arguments of kinds opened: values, ranges, slices of columns and of values; texts are no longer than a machine can hold.
-/
import Derived.Test.YtdjnjhlcdcmeaaaK9
import Derived.Deep.Slices
import Derived.Deep.Fields
import Derived.ChangeSame
import Derived.ProofKit
import Derived.OpenShut
import Derived.SizedLaws
namespace Go.Proofs.Ytdjnjhlcdcmeaaa
open Go.RowKit Go.ChangeShapes Go.WideShapes Go.ChangeAt Go.Deep
section
variable {H : Type} {enc : TypeId × Value → H} {W : World}
/-- The reading of a value. -/
def Kn.rd (x : Kn.V) : DataW H := .agg [.lit (.bool x.null), .lit (.int .i64 x.n), .lit (.string x.s.data.toList)]
theorem Kn.open_cells {fuel : Nat} {cs : List Value} {z : DataW H × List MemPlace} (h : DataW.trod enc Try.prog W 0 (fun _ => true) true fuel 23 cs = some z) :
    ∃ x : Kn.V, cs = [.bool x.null, .int .i64 x.n, .string x.s] ∧ z.1 = Kn.rd x := by
  obtain ⟨xs, f', _, hx, hcl, hxl, hg⟩ := DataW.trod_struct Try.underlying23 h
  have hC : Try.prog.cellsOf 23 = 3 := by kernel_rfl
  have i3 : Try.prog.cellsOf 4 = 1 := by kernel_rfl
  have i2 : Try.prog.cellsOf 2 = 1 := by kernel_rfl
  have i9 : Try.prog.cellsOf 9 = 1 := by kernel_rfl
  rw [hC] at hcl
  match cs, hcl, xs, hxl with
  | [c0, c1, c2], _, [y0, y1, y2], _ =>
    have g0 : DataW.trod enc Try.prog W 0 (fun _ => true) true f' 4 ((List.drop 0 [c0, c1, c2]).take (Try.prog.cellsOf 4)) = some y0 := hg 0 _ rfl
    have g1 : DataW.trod enc Try.prog W 0 (fun _ => true) true f' 2 ((List.drop 1 [c0, c1, c2]).take (Try.prog.cellsOf 2)) = some y1 := hg 1 _ rfl
    have g2 : DataW.trod enc Try.prog W 0 (fun _ => true) true f' 9 ((List.drop 2 [c0, c1, c2]).take (Try.prog.cellsOf 9)) = some y2 := hg 2 _ rfl
    rw [i3] at g0
    rw [i2] at g1
    rw [i9] at g2
    obtain ⟨k, e0, r0⟩ := DataW.trod_bool Try.underlying4 (show DataW.trod enc Try.prog W 0 (fun _ => true) true f' 4 [c0] = some y0 from g0)
    obtain ⟨n, e1, r1, w1⟩ := DataW.trod_int Try.underlying2 (show DataW.trod enc Try.prog W 0 (fun _ => true) true f' 2 [c1] = some y1 from g1)
    obtain ⟨s, e2, r2, _⟩ := DataW.trod_string Try.underlying9 (show DataW.trod enc Try.prog W 0 (fun _ => true) true f' 9 [c2] = some y2 from g2)
    simp only [List.cons.injEq, and_true] at e0 e1 e2
    subst e0 e1 e2 r0 r1 r2
    exact ⟨⟨k, n, s⟩, rfl, by rw [hx]; rfl⟩
/-- A value, handed over. -/
theorem Kn.open_val {v : Value} {d : DataW H} {ps : List MemPlace} {r : Reach} {b0 : Nat} (hv : Value.okWide Try.prog W r b0 23 v) (h : DataW.Trod enc Try.prog W 0 (fun _ => true) true 23 v d ps) :
    ∃ x : Kn.V, v = x.val ∧ d = Kn.rd x := by
  obtain ⟨cs, rfl, _⟩ := okWide_struct Try.underlying23 hv
  obtain ⟨fuel, hf⟩ := h
  obtain ⟨x, hx, hd⟩ := Kn.open_cells hf
  have e : cs.toList = [.bool x.null, .int .i64 x.n, .string x.s] := hx
  refine ⟨x, ?_, hd⟩
  unfold Kn.V.val
  rw [← Array.toArray_toList (xs := cs), e]
theorem Kn.z_of {ts : List TypeId} {ds : List (DataW H)} (h : (DataW.weightsEach Try.prog ts ds).all (· ≤ reachBytes) = true) {j : Nat} {x : Kn.V} (ht : ts[j]? = some 23) (hd : ds[j]? = some (Kn.rd x)) : Kn.Z x := by
  have := List.all_eq_true.1 h x.s.size (DataW.weights_mem_each ht hd _ (by
    unfold Kn.rd
    simp only [DataW.weights, Try.underlying23]
    show x.s.size ∈ DataW.weightsEach Try.prog [4, 2, 9] [.lit (.bool x.null), .lit (.int .i64 x.n), .lit (.string x.s.data.toList)]
    simp [DataW.weightsEach, DataW.weights]))
  have h2 : x.s.size ≤ reachBytes := of_decide_eq_true this
  unfold reachBytes at h2
  unfold Kn.Z
  omega
/-- A slice of values. -/
theorem Kn.open_vals {a0 : Option Addr} {len cap : Nat} {d : DataW H} {ps : List MemPlace} {t : TypeId} (ht : Try.prog.underlying t = some (.slice 23)) (h : DataW.Trod enc Try.prog W 0 (fun _ => true) true t (.slice a0 len cap) d ps) :
    ∃ l : List Kn.V, Kn.Vals W (.slice a0 len cap) l := by
  obtain ⟨fuel, hf⟩ := h
  have hC : Try.prog.cellsOf 23 = 3 := by kernel_rfl
  rcases open_slice ht hf with ⟨hcs, hx⟩ | ⟨a, len', cap', m, n, D, Pl, hcs, _, hl, hm, hmm, hx, hi⟩
  · have hv : Value.slice a0 len cap = .slice none 0 0 := by simpa [Value.cells] using hcs
    exact ⟨[], ⟨none, 0, hv, .inl rfl⟩⟩
  · have hv : Value.slice a0 len cap = .slice (some a) len' cap' := by simpa [Value.cells] using hcs
    simp only [Value.slice.injEq] at hv
    obtain ⟨rfl, rfl, rfl⟩ := hv
    simp only [if_true] at hmm
    by_cases hz : len = 0
    · subst hz
      exact ⟨[], ⟨some a, cap, rfl, .inl rfl⟩⟩
    · rw [hC] at hi
      have hone : ∀ i, i < len → ∃ x : Kn.V, W.cell? (a.add (i * 3)) = some (.bool x.null) ∧ W.cell? (a.add (i * 3 + 1)) = some (.int .i64 x.n) ∧ W.cell? (a.add (i * 3 + 2)) = some (.string x.s) := fun i hil => by
        obtain ⟨cs', hc, ht⟩ := hi i (by omega)
        obtain ⟨x, rfl, _⟩ := Kn.open_cells ht
        obtain ⟨_, _, hat⟩ := World.cells?_some hc
        have a0 := hat 0 (by omega)
        have a1 := hat 1 (by omega)
        have a2 := hat 2 (by omega)
        rw [add_add] at a0 a1 a2
        exact ⟨x, a0, a1, a2⟩
      obtain ⟨b, off, spot⟩ := a
      have hspot : spot = none := by
        obtain ⟨x, h0, _⟩ := hone 0 (by omega)
        simpa [Addr.add] using World.cell?_spot h0
      subst hspot
      have hlt : b < W.heap.size := by
        obtain ⟨x, h0, _⟩ := hone 0 (by omega)
        have := World.block_lt_of_cell? W _ h0
        simpa [Addr.add] using this
      have hch : ∃ f : Nat → Kn.V, ∀ i, i < len → Kn.At W b (off + i * 3) (f i) := by
        have hone' : ∀ i, i < len → ∃ x : Kn.V, Kn.At W b (off + i * 3) x := fun i hil => by
          obtain ⟨x, h0, h1, h2⟩ := hone i hil
          rw [add_plain] at h0 h1 h2
          rw [← Nat.add_assoc] at h1 h2
          exact ⟨x, h0, h1, h2⟩
        refine ⟨fun i => if hil : i < len then (hone' i hil).choose else ⟨false, 0, ⟨#[]⟩⟩, fun i hil => ?_⟩
        have hs := (hone' i hil).choose_spec
        simp only [dif_pos hil]
        exact hs
      obtain ⟨f, hf'⟩ := hch
      refine ⟨(List.range len).map f, ⟨some ⟨b, off, none⟩, cap, by simp, .inr ⟨b, off, rfl, hlt, by unfold maxLen at hm; simp; omega, fun i x hix => ?_⟩⟩⟩
      rw [List.getElem?_map, Option.map_eq_some_iff] at hix
      obtain ⟨i', hi', rfl⟩ := hix
      obtain ⟨hil, rfl⟩ := List.getElem?_eq_some_iff.1 hi'
      rw [List.getElem_range]
      rw [List.length_range] at hil
      exact hf' i hil
end
end Go.Proofs.Ytdjnjhlcdcmeaaa
