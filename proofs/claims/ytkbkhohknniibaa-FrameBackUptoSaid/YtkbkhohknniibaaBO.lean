/-
  Arguments of the laws of bits opened: a slice of numbers, a slice of truths; how long they may be.
-/
import Derived.Test.YtkbkhohknniibaaB4
import Derived.Deep.Slices
import Derived.Deep.Grids
import Derived.Deep.Fields
import Derived.ChangeSame
import Derived.ProofKit
import Derived.OpenShut
import Derived.SizedLaws
namespace Go.Proofs.Ytkbkhohknniibaa
open Go.RowKit Go.ChangeShapes Go.WideShapes Go.ChangeAt Go.Deep
section
variable {H : Type} {enc : TypeId × Value → H} {W : World}
theorem Bt.bulk_len (l : List (DataW H)) : l.length ≤ Rows.uptoBulkAll l := by
  induction l with
  | nil => simp [Rows.uptoBulkAll]
  | cons x r ih =>
    have h1 : 1 ≤ Rows.uptoBulk x := by
      cases x with
      | lit l => cases l <;> simp [Rows.uptoBulk]
      | nil => simp [Rows.uptoBulk]
      | ptr d => simp [Rows.uptoBulk]
      | slice elems spare => simp [Rows.uptoBulk]
      | agg parts => simp [Rows.uptoBulk]
      | iface t d => simp [Rows.uptoBulk]
      | map entries => simp [Rows.uptoBulk]
      | held h => simp [Rows.uptoBulk]
    simp only [Rows.uptoBulkAll, List.length_cons]
    omega
/-- What a slice of so many elements is. -/
def Bt.Long (d : DataW H) (n : Nat) : Prop := d = .nil ∧ n = 0 ∨ ∃ es sp, d = .slice es sp ∧ n ≤ es.length
theorem Bt.Long.bulk {d : DataW H} {n : Nat} (h : Bt.Long d n) : n ≤ Rows.uptoBulk d := by
  rcases h with ⟨rfl, rfl⟩ | ⟨es, sp, rfl, h⟩
  · omega
  · have := Bt.bulk_len es
    simp only [Rows.uptoBulk]
    omega
/-- The cells of a slice of one cell each. -/
theorem Bt.sl_of {a : Addr} {len cap : Nat} {f : Nat → Value} (hf : ∀ i, i < len → W.cell? (a.add i) = some (f i)) : Bt.Sl W (.slice (some a) len cap) len f := by
  by_cases hz : len = 0
  · exact ⟨_, cap, rfl, .inl hz⟩
  · obtain ⟨b, off, spot⟩ := a
    have h0 := hf 0 (by omega)
    have hspot : spot = none := by simpa [Addr.add] using World.cell?_spot h0
    subst hspot
    have hlt : b < W.heap.size := by
      have := World.block_lt_of_cell? W _ h0
      simpa [Addr.add] using this
    refine ⟨_, cap, rfl, .inr ⟨b, off, rfl, hlt, fun i hi => ?_⟩⟩
    have := hf i hi
    rwa [add_plain] at this
theorem Bt.sized {ts : List TypeId} {ds : List (DataW H)} (h : (DataW.weightsEach Try.prog ts ds).all (· ≤ reachBytes) = true) {j n : Nat} {t e : TypeId} {d : DataW H} (ht : ts[j]? = some t) (hd : ds[j]? = some d) (hu : Try.prog.underlying t = some (.slice e)) (hl : Bt.Long d n) : n * Try.prog.bytesOf e ≤ 140737488351232 := by
  rcases hl with ⟨rfl, rfl⟩ | ⟨es, sp, rfl, hn⟩
  · omega
  · have := sized_slice h ht hd hu
    unfold reachBytes at this
    have h2 : n * Try.prog.bytesOf e ≤ (es.length + sp.length) * Try.prog.bytesOf e := Nat.mul_le_mul_right _ (by omega)
    omega
end
end Go.Proofs.Ytkbkhohknniibaa
