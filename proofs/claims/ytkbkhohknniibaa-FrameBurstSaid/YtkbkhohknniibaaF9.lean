/-
  The bytes of a converted string, as a row that is stored into.
-/
import Derived.Test.YtkbkhohknniibaaF8
import Derived.Lib.ConvBytes
import Derived.Laws.BytesArg
import Derived.Below
namespace Go.Proofs.Ytkbkhohknniibaa
open Go.RowKit
/-- Block g begins with the bytes m, as a conversion of a string leaves it. -/
def Fr.Bts (w : World) (g : Nat) (m : List UInt8) : Prop :=
  ∃ cs : Array Value, w.heap[g]? = some (.cells cs 5 (cs.size, cs.size + 1)) ∧ m.length ≤ cs.size ∧ ∀ j, j < m.length → cs[j]? = some (.int .u8 ((m.getD j 0).toNat : Int))
theorem Fr.Bts.lt {w : World} {g : Nat} {m : List UInt8} (h : Fr.Bts w g m) : g < w.heap.size := by
  obtain ⟨cs, h1, _, _⟩ := h
  exact (Array.getElem?_eq_some_iff.1 h1).1
theorem Fr.Bts.cell {w : World} {g : Nat} {m : List UInt8} (h : Fr.Bts w g m) {j : Nat} (hj : j < m.length) : w.cell? ⟨g, j, none⟩ = some (.int .u8 ((m.getD j 0).toNat : Int)) := by
  obtain ⟨cs, h1, _, h3⟩ := h
  simp [World.cell?, h1, h3 j hj]
theorem Fr.Bts.frozen {w : World} {g : Nat} {m : List UInt8} (h : Fr.Bts w g m) {j : Nat} (hj : j < m.length) : w.frozen? ⟨g, j, none⟩ = false := by
  obtain ⟨cs, h1, h2, _⟩ := h
  have : ¬ cs.size ≤ j := by omega
  simp [World.frozen?, h1, this]
theorem Fr.Bts.of_block {w w' : World} {g : Nat} {m : List UInt8} (h : Fr.Bts w g m) (e : w'.heap[g]? = w.heap[g]?) : Fr.Bts w' g m := by
  obtain ⟨cs, h1, h2, h3⟩ := h
  exact ⟨cs, e.trans h1, h2, h3⟩
theorem Fr.Bts.set {w : World} {g : Nat} {m : List UInt8} (h : Fr.Bts w g m) {j : Nat} (hj : j < m.length) (x : UInt8) : Fr.Bts (w.setCell ⟨g, j, none⟩ (.int .u8 (x.toNat : Int))) g (m.set j x) := by
  obtain ⟨cs, h1, h2, h3⟩ := h
  refine ⟨cs.setIfInBounds j (.int .u8 (x.toNat : Int)), ?_, by simpa using h2, fun q hq => ?_⟩
  · simp [World.setCell, Array.getElem?_modify, h1]
  · rw [List.length_set] at hq
    rw [Array.getElem?_setIfInBounds, Fr.getD_set m j q x hj]
    by_cases e : j = q
    · subst e
      rw [if_pos rfl, if_pos rfl, if_pos (by omega)]
    · rw [if_neg e, if_neg (fun h => e h.symm)]
      exact h3 q hq
/-- .. behind the first bytes. -/
theorem Fr.Bts.set_behind {w : World} {g : Nat} {p m : List UInt8} (h : Fr.Bts w g (p ++ m)) {j : Nat} (hj : j < m.length) (x : UInt8) : Fr.Bts (w.setCell ⟨g, p.length + j, none⟩ (.int .u8 (x.toNat : Int))) g (p ++ m.set j x) := by
  have := h.set (j := p.length + j) (by rw [List.length_append]; omega) x
  rwa [List.set_append_right _ _ (by omega), Nat.add_sub_cancel_left] at this
theorem Fr.Bts.cell_behind {w : World} {g : Nat} {p m : List UInt8} (h : Fr.Bts w g (p ++ m)) {j : Nat} (hj : j < m.length) : w.cell? ⟨g, p.length + j, none⟩ = some (.int .u8 ((m.getD j 0).toNat : Int)) := by
  have := h.cell (j := p.length + j) (by rw [List.length_append]; omega)
  rw [this]
  congr 3
  rw [List.getD, List.getElem?_append_right (by omega), Nat.add_sub_cancel_left]
  rfl
set_option maxRecDepth 100000 in
theorem Fr.Bts.string {w : World} {g : Nat} {m : List UInt8} (h : Fr.Bts w g m) (c : Nat) : (convert 40 9 (.slice (some ⟨g, 0, none⟩) m.length c)).run Try.prog w = .ok (.string (Ty.S m)) w := by
  have := run_convert_bytes_arg (P := Try.prog) w 40 _ Try.underlying40 Try.underlying5 g 0 m.length c (m.map fun u => (u.toNat : Int)) (by simp) (fun i hi => by
    have hc := h.cell hi
    have ea : (⟨g, 0 + i, none⟩ : Addr) = ⟨g, i, none⟩ := by rw [Nat.zero_add]
    rw [ea, hc]
    simp [List.getD, hi]) 9 Try.underlying9
  rw [this]
  have e : strOfNums (m.map fun u => (u.toNat : Int)) = Ty.S m := by
    unfold strOfNums Ty.S
    congr 1
    rw [List.map_map]
    congr 1
    conv => rhs; rw [← List.map_id m]
    apply List.map_congr_left
    intro u _
    simp
  rw [e]
/-- The world behind '[]byte(s)'. -/
theorem Fr.run_bytes (s : ByteArray) (w : World) : (convert 9 40 (.string s)).run Try.prog w = .ok (.slice (some ⟨w.heap.size, 0, none⟩) s.size (grownCap w s.size 0 5)) (Lib.bytesWorld w 5 s) :=
  Lib.run_convert_string_bytes w 9 40 5 s Try.underlying9 Try.underlying40 Try.underlying5
theorem Fr.Bts.made (w : World) (m : List UInt8) : Fr.Bts (Lib.bytesWorld w 5 (Ty.S m)) w.heap.size m := by
  refine ⟨_, Lib.bytesWorld_at_new w _ _, ?_, fun j hj => ?_⟩
  · simp [Lib.bytesCells, Ty.S]
  · have := Lib.bytesWorld_cell w 5 (Ty.S m) j hj
    rw [World.cell?, Lib.bytesWorld_at_new] at this
    exact this
theorem Fr.bytes_below (w : World) (s : ByteArray) : Below w.heap.size w (Lib.bytesWorld w 5 s) :=
  ⟨rfl, rfl, rfl, by rw [Lib.bytesWorld_size]; omega, fun j hj => Lib.bytesWorld_at_old w _ s j hj⟩
end Go.Proofs.Ytkbkhohknniibaa
