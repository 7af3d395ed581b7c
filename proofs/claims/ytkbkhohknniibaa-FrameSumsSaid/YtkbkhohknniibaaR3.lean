/-
  Contracts of the document's answers for tally: what the cursor sees next.
-/
import Derived.Test.YtkbkhohknniibaaR2
namespace Go.Proofs.Ytkbkhohknniibaa
open Go.RowKit
theorem Ty.by_drewN (w : World) (n : Nat) (r : Option Nat) : w.grownBy (w.drewN n) r := ⟨rfl, rfl, rfl, Nat.le_refl _, fun _ _ _ => rfl⟩
theorem Ty.by_then {w w' : World} {r : Option Nat} (h : w.grownBy w' r) (n : Nat) : w.grownBy (w'.drewN n) r := Ty.by_trans h (Ty.by_drewN w' n r)
theorem Ty.by_below {w w' : World} (h : Below w.heap.size w w') : w.grownBy w' none := ⟨h.os, h.tape, h.output, h.size, fun k hk _ => h.block k hk⟩
theorem Ty.at_drop (s : ByteArray) (a k : Nat) (h : a + k < s.size) : s[a + k] = (s.data.toList.drop a).getD k 0 := by
  rw [Ty.at_getD s (a + k) h, List.getD, List.getD, List.getElem?_drop]
theorem Ty.len_drop (s : ByteArray) (a : Nat) : (s.data.toList.drop a).length = s.size - a := by rw [List.length_drop, Ty.length_data]
theorem Ty.rstep (l : List UInt8) (b : UInt8) (k : Nat) (hk : 1 ≤ k) (hp : Ty.pv l k < 72057594037927936) (hb : b = l.getD k 0) :
    IntKind.u64.wrap (IntKind.u64.wrap (256 * (Ty.pv l k : Int)) + IntKind.u64.wrap (b.toNat : Int)) = (Ty.pv l (k + 1) : Int) := by
  have h2 := b.toNat_lt
  rw [Ty.wrapu64 (256 * (Ty.pv l k : Int)) (by omega) (by omega), Ty.wrapu64 (b.toNat : Int) (by omega) (by omega), Ty.wrapu64 _ (by omega) (by omega), Ty.pv_succ l k hk, ← hb]
  omega
theorem Ty.len_small (n f : Nat) (hf : f ≤ 3) (h : n < Ty.small f) : (Ty.encU n).length ≠ 1 + Ty.after f := by
  rw [Ty.encU_length]
  have hb := Ty.form_is n
  rcases (by omega : f = 0 ∨ f = 1 ∨ f = 2 ∨ f = 3) with rfl | rfl | rfl | rfl
  · simp [Ty.small] at h
  · simp only [Ty.small] at h
    rw [show Ty.form n = 0 by omega]; decide
  · simp only [Ty.small] at h
    rcases (by omega : Ty.form n = 0 ∨ Ty.form n = 1) with e | e <;> rw [e] <;> decide
  · simp only [Ty.small] at h
    rcases (by omega : Ty.form n = 0 ∨ Ty.form n = 1 ∨ Ty.form n = 2) with e | e | e <;> rw [e] <;> decide
end Go.Proofs.Ytkbkhohknniibaa
