/-
  Contracts of package bits: Pack whatever comes in; Untruths, Unpack.
-/
import Derived.Test.YtkbkhohknniibaaB4
namespace Go.Proofs.Ytkbkhohknniibaa
open Go.RowKit
/-- Which error truths, numbers have, and how many there are. -/
def Bt.utE (s : ByteArray) (z : Int) : Nat := if 0 ≤ z ∧ z ≤ 65536 then Bt.chk s z.toNat else 1
def Bt.utN (s : ByteArray) (z : Int) : Nat := if Bt.utE s z = 0 then z.toNat else 0
def Bt.upE (s : ByteArray) (z q : Int) : Nat := if (0 ≤ q ∧ q ≤ 64) ∧ 0 ≤ z ∧ z ≤ 65536 then Bt.chk s (z.toNat * q.toNat) else 1
def Bt.upN (s : ByteArray) (z q : Int) : Nat := if Bt.upE s z q = 0 then z.toNat else 0
/-- The numbers of so many bits in bytes. -/
def Bt.nums (s : ByteArray) (q : Nat) (i : Nat) : Nat := Bt.num q (fun j => Bt.bit s (i * q + j))
theorem Bt.Sl.nil (w : World) (f : Nat → Value) : Bt.Sl w (.slice none 0 0) 0 f := ⟨none, 0, rfl, .inl rfl⟩
theorem Bt.Sl.row {w : World} {g n c : Nat} {t : TypeId} {f : Nat → Value} (h : w.rowIs g t n f) : Bt.Sl w (.slice (some ⟨g, 0, none⟩) n c) n f :=
  ⟨_, c, rfl, .inr ⟨g, 0, rfl, h.lt, fun i hi => by rw [Nat.zero_add]; exact h.cell hi⟩⟩
theorem Bt.infoB : (Try.prog.info? 4).map (fun i => (i.zero, i.size, i.bytes)) = some (some (.bool false), 1, 1) := by kernel_rfl
theorem Bt.num_one (g : Nat → Bool) : Bt.num 1 g = (g 0).toNat := by simp [Bt.num]
/-- So far k of n values are laid. -/
def Bt.upTo (k : Nat) (f : Nat → Value) (z : Value) (i : Nat) : Value := if i < k then f i else z
theorem Bt.upTo_next {w : World} {g n k : Nat} {t : TypeId} {f : Nat → Value} {z u : Value} (h : w.rowIs g t n (Bt.upTo k f z)) (hu : u = f k) : (w.setCell ⟨g, k, none⟩ u).rowIs g t n (Bt.upTo (k + 1) f z) := by
  refine (World.rowIs.set h k u).congr fun i _ => ?_
  unfold Bt.upTo
  by_cases e : i = k
  · subst e
    rw [if_pos rfl, if_pos (by omega), hu]
  · rw [if_neg e]
    by_cases h2 : i < k
    · rw [if_pos h2, if_pos (by omega)]
    · rw [if_neg h2, if_neg (by omega)]
theorem Bt.below_set {w : World} {g i B : Nat} (hB : B ≤ g) (u : Value) : Below B w (w.setCell ⟨g, i, none⟩ u) :=
  ⟨rfl, rfl, rfl, by simp [World.setCell], fun k hk => Below.heap_setCell _ _ _ _ (by show k ≠ g; omega)⟩
end Go.Proofs.Ytkbkhohknniibaa
