/-
  The walk of the law TallyOrder.
-/
import Derived.Test.YtkbkhohknniibaaL3
import Derived.Test.YtkbkhohknniibaaM3
namespace Go.Proofs.Ytkbkhohknniibaa
open Go.RowKit
theorem Ty.S_beq (a b : List UInt8) : ((Ty.S a).toList == (Ty.S b).toList) = (a == b) := by rw [ByteArray.toList_eq, ByteArray.toList_eq]; rfl
theorem Ty.S_less (a b : List UInt8) : Op.bytesLess (Ty.S a).toList (Ty.S b).toList = Op.bytesLess a b := by rw [ByteArray.toList_eq, ByteArray.toList_eq]; rfl
/-- What the last test of the law comes to, way by way. -/
theorem Ty.order_ways (x y : Int) (hx : 0 ≤ x) (hy : 0 ≤ y) (ux : Ty.U64 x.toNat) (uy : Ty.U64 y.toNat) :
    (x = y) ∨ ((x == y) = false ∧ ((Ty.S (Ty.encU x.toNat)).toList == (Ty.S (Ty.encU y.toNat)).toList) = false ∧ y ≤ x) ∨
    ((x == y) = false ∧ ((Ty.S (Ty.encU x.toNat)).toList == (Ty.S (Ty.encU y.toNat)).toList) = false ∧ ¬ y ≤ x ∧ ((Ty.S (Ty.encU x.toNat)).size : Int) < ((Ty.S (Ty.encU y.toNat)).size : Int)) ∨
    ((x == y) = false ∧ ((Ty.S (Ty.encU x.toNat)).toList == (Ty.S (Ty.encU y.toNat)).toList) = false ∧ ¬ y ≤ x ∧ ¬ ((Ty.S (Ty.encU x.toNat)).size : Int) < ((Ty.S (Ty.encU y.toNat)).size : Int) ∧ (((Ty.S (Ty.encU x.toNat)).size : Int) == ((Ty.S (Ty.encU y.toNat)).size : Int)) = true ∧ Op.bytesLess (Ty.S (Ty.encU x.toNat)).toList (Ty.S (Ty.encU y.toNat)).toList = true) := by
  simp only [Ty.size_S, Ty.S_less, Ty.S_beq]
  rcases Int.lt_trichotomy x y with h | h | h
  · right; right
    have ho := Ty.encU_order x.toNat y.toNat ux uy (by omega)
    have e1 : (x == y) = false := by rw [beq_eq_false_iff_ne]; omega
    have e2 : (Ty.encU x.toNat == Ty.encU y.toNat) = false := by rw [beq_eq_false_iff_ne]; exact ho.1
    rcases ho.2 with h1 | ⟨h1, h2⟩
    · left; exact ⟨e1, e2, by omega, by omega⟩
    · right; exact ⟨e1, e2, by omega, by omega, by rw [beq_iff_eq]; omega, h2⟩
  · exact .inl h
  · right; left
    have ho := Ty.encU_order y.toNat x.toNat uy ux (by omega)
    exact ⟨by rw [beq_eq_false_iff_ne]; omega, by rw [beq_eq_false_iff_ne]; exact fun e => ho.1 e.symm, by omega⟩
end Go.Proofs.Ytkbkhohknniibaa
