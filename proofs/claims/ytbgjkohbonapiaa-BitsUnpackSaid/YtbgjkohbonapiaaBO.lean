/-
  Arguments of the laws of bits opened: a slice of numbers, a slice of truths; how long they may be.
-/
import Derived.Test.YtbgjkohbonapiaaB4
import Derived.Deep.Slices
import Derived.Deep.Grids
import Derived.Deep.Fields
import Derived.ChangeSame
import Derived.ProofKit
import Derived.OpenShut
import Derived.SizedLaws
namespace Go.Proofs.Ytbgjkohbonapiaa
open Go.RowKit Go.ChangeShapes Go.WideShapes Go.ChangeAt Go.Deep
section
variable {H : Type} {enc : TypeId × Value → H} {W : World}
theorem Bt.bulk_len (l : List (DataW H)) : l.length ≤ Rows.uptoBulkAll l := by
  induction l with
  | nil => simp [Rows.uptoBulkAll]
  | cons x r ih =>
    have h1 : 1 ≤ Rows.uptoBulk x := by
      cases x with
      | lit l => cases l <;> simp [Rows.uptoBulk]
      | nil => simp [Rows.uptoBulk]
      | ptr d => simp [Rows.uptoBulk]
      | slice elems spare => simp [Rows.uptoBulk]
      | agg parts => simp [Rows.uptoBulk]
      | iface t d => simp [Rows.uptoBulk]
      | map entries => simp [Rows.uptoBulk]
      | held h => simp [Rows.uptoBulk]
    simp only [Rows.uptoBulkAll, List.length_cons]
    omega
/-- What a slice of so many elements is. -/
def Bt.Long (d : DataW H) (n : Nat) : Prop := d = .nil ∧ n = 0 ∨ ∃ es sp, d = .slice es sp ∧ n ≤ es.length
theorem Bt.Long.bulk {d : DataW H} {n : Nat} (h : Bt.Long d n) : n ≤ Rows.uptoBulk d := by
  rcases h with ⟨rfl, rfl⟩ | ⟨es, sp, rfl, h⟩
  · omega
  · have := Bt.bulk_len es
    simp only [Rows.uptoBulk]
    omega
/-- The cells of a slice of one cell each. -/
theorem Bt.sl_of {a : Addr} {len cap : Nat} {f : Nat → Value} (hf : ∀ i, i < len → W.cell? (a.add i) = some (f i)) : Bt.Sl W (.slice (some a) len cap) len f := by
  by_cases hz : len = 0
  · exact ⟨_, cap, rfl, .inl hz⟩
  · obtain ⟨b, off, spot⟩ := a
    have h0 := hf 0 (by omega)
    have hspot : spot = none := by simpa [Addr.add] using World.cell?_spot h0
    subst hspot
    have hlt : b < W.heap.size := by
      have := World.block_lt_of_cell? W _ h0
      simpa [Addr.add] using this
    refine ⟨_, cap, rfl, .inr ⟨b, off, rfl, hlt, fun i hi => ?_⟩⟩
    have := hf i hi
    rwa [add_plain] at this
/-- A slice of numbers. -/
theorem Bt.open_nums {a0 : Option Addr} {len cap : Nat} {d : DataW H} {ps : List MemPlace} (h : DataW.Trod enc Try.prog W 0 (fun _ => true) true 30 (.slice a0 len cap) d ps) :
    ∃ X : Nat → Nat, (∀ i, X i < 2 ^ 64) ∧ Bt.Sl W (.slice a0 len cap) len (Bt.nv X) ∧ Bt.Long d len := by
  obtain ⟨fuel, hf⟩ := h
  rcases open_ints Try.underlying30 Try.underlying42 (by kernel_rfl) hf with ⟨hcs, hx⟩ | ⟨a, len', cap', zs, hcs, _, hl, hm, hz, hx, hcell, hwz⟩
  · have hv : Value.slice a0 len cap = .slice none 0 0 := by simpa [Value.cells] using hcs
    simp only [Value.slice.injEq] at hv
    obtain ⟨rfl, rfl, rfl⟩ := hv
    simp only [Prod.mk.injEq] at hx
    exact ⟨fun _ => 0, fun _ => Nat.two_pow_pos 64, ⟨none, 0, rfl, .inl rfl⟩, .inl ⟨hx.1, rfl⟩⟩
  · have hv : Value.slice a0 len cap = .slice (some a) len' cap' := by simpa [Value.cells] using hcs
    simp only [Value.slice.injEq] at hv
    obtain ⟨rfl, rfl, rfl⟩ := hv
    simp only [if_true] at hz
    simp only [Prod.mk.injEq] at hx
    have hw : ∀ i, 0 ≤ zs.getD i 0 ∧ zs.getD i 0 < 2 ^ 64 := fun i => by
      rw [List.getD]
      cases hg : zs[i]? with
      | none => exact ⟨by decide, by decide⟩
      | some n =>
        have := bounds_u64 (hwz n (List.mem_of_getElem? hg))
        simp only [Option.getD_some]
        omega
    refine ⟨fun i => (zs.getD i 0).toNat, fun i => by have := hw i; show (zs.getD i 0).toNat < 2 ^ 64; omega, Bt.sl_of fun i hi => ?_, .inr ⟨_, _, hx.1, ?_⟩⟩
    · rw [hcell i (by omega)]
      unfold Bt.nv
      have := hw i
      have e : (((zs.getD i 0).toNat : Nat) : Int) = zs.getD i 0 := by omega
      rw [e]
    · simp only [lits, List.length_map, List.length_take]
      omega
/-- A slice of truths. -/
theorem Bt.open_truths {a0 : Option Addr} {len cap : Nat} {d : DataW H} {ps : List MemPlace} (h : DataW.Trod enc Try.prog W 0 (fun _ => true) true 22 (.slice a0 len cap) d ps) :
    ∃ T : Nat → Bool, Bt.Sl W (.slice a0 len cap) len (Bt.bv T) ∧ Bt.Long d len := by
  obtain ⟨fuel, hf⟩ := h
  rcases open_bools Try.underlying22 Try.underlying4 (by kernel_rfl) hf with ⟨hcs, hx⟩ | ⟨a, len', cap', B, hcs, _, hl, hm, hx, hcell⟩
  · have hv : Value.slice a0 len cap = .slice none 0 0 := by simpa [Value.cells] using hcs
    simp only [Value.slice.injEq] at hv
    obtain ⟨rfl, rfl, rfl⟩ := hv
    simp only [Prod.mk.injEq] at hx
    exact ⟨fun _ => false, ⟨none, 0, rfl, .inl rfl⟩, .inl ⟨hx.1, rfl⟩⟩
  · have hv : Value.slice a0 len cap = .slice (some a) len' cap' := by simpa [Value.cells] using hcs
    simp only [Value.slice.injEq] at hv
    obtain ⟨rfl, rfl, rfl⟩ := hv
    simp only [Prod.mk.injEq] at hx
    exact ⟨B, Bt.sl_of fun i hi => hcell i (by omega), .inr ⟨_, _, hx.1, by simp⟩⟩
theorem Bt.sized {ts : List TypeId} {ds : List (DataW H)} (h : (DataW.weightsEach Try.prog ts ds).all (· ≤ reachBytes) = true) {j n : Nat} {t e : TypeId} {d : DataW H} (ht : ts[j]? = some t) (hd : ds[j]? = some d) (hu : Try.prog.underlying t = some (.slice e)) (hl : Bt.Long d n) : n * Try.prog.bytesOf e ≤ 140737488351232 := by
  rcases hl with ⟨rfl, rfl⟩ | ⟨es, sp, rfl, hn⟩
  · omega
  · have := sized_slice h ht hd hu
    unfold reachBytes at this
    have h2 : n * Try.prog.bytesOf e ≤ (es.length + sp.length) * Try.prog.bytesOf e := Nat.mul_le_mul_right _ (by omega)
    omega
end
end Go.Proofs.Ytbgjkohbonapiaa
