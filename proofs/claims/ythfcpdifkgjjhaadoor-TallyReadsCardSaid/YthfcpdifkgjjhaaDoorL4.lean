/-
  The walk of the law TallyOrder.
-/
import Derived.Test.YthfcpdifkgjjhaaDoorL3
import Derived.Test.YthfcpdifkgjjhaaDoorM3
namespace Go.Proofs.YthfcpdifkgjjhaaDoor
open Go.RowKit
theorem Ty.S_beq (a b : List UInt8) : ((Ty.S a).toList == (Ty.S b).toList) = (a == b) := by rw [ByteArray.toList_eq, ByteArray.toList_eq]; rfl
theorem Ty.S_less (a b : List UInt8) : Op.bytesLess (Ty.S a).toList (Ty.S b).toList = Op.bytesLess a b := by rw [ByteArray.toList_eq, ByteArray.toList_eq]; rfl
/-- What the last test of the law comes to, way by way. -/
theorem Ty.order_ways (x y : Int) (hx : 0 ≤ x) (hy : 0 ≤ y) (ux : Ty.U64 x.toNat) (uy : Ty.U64 y.toNat) :
    (x = y) ∨ ((x == y) = false ∧ ((Ty.S (Ty.encU x.toNat)).toList == (Ty.S (Ty.encU y.toNat)).toList) = false ∧ y ≤ x) ∨
    ((x == y) = false ∧ ((Ty.S (Ty.encU x.toNat)).toList == (Ty.S (Ty.encU y.toNat)).toList) = false ∧ ¬ y ≤ x ∧ ((Ty.S (Ty.encU x.toNat)).size : Int) < ((Ty.S (Ty.encU y.toNat)).size : Int)) ∨
    ((x == y) = false ∧ ((Ty.S (Ty.encU x.toNat)).toList == (Ty.S (Ty.encU y.toNat)).toList) = false ∧ ¬ y ≤ x ∧ ¬ ((Ty.S (Ty.encU x.toNat)).size : Int) < ((Ty.S (Ty.encU y.toNat)).size : Int) ∧ (((Ty.S (Ty.encU x.toNat)).size : Int) == ((Ty.S (Ty.encU y.toNat)).size : Int)) = true ∧ Op.bytesLess (Ty.S (Ty.encU x.toNat)).toList (Ty.S (Ty.encU y.toNat)).toList = true) := by
  simp only [Ty.size_S, Ty.S_less, Ty.S_beq]
  rcases Int.lt_trichotomy x y with h | h | h
  · right; right
    have ho := Ty.encU_order x.toNat y.toNat ux uy (by omega)
    have e1 : (x == y) = false := by rw [beq_eq_false_iff_ne]; omega
    have e2 : (Ty.encU x.toNat == Ty.encU y.toNat) = false := by rw [beq_eq_false_iff_ne]; exact ho.1
    rcases ho.2 with h1 | ⟨h1, h2⟩
    · left; exact ⟨e1, e2, by omega, by omega⟩
    · right; exact ⟨e1, e2, by omega, by omega, by rw [beq_iff_eq]; omega, h2⟩
  · exact .inl h
  · right; left
    have ho := Ty.encU_order y.toNat x.toNat uy ux (by omega)
    exact ⟨by rw [beq_eq_false_iff_ne]; omega, by rw [beq_eq_false_iff_ne]; exact fun e => ho.1 e.symm, by omega⟩
set_option maxHeartbeats 1000000 in
theorem Ty.order_w (x y : Int) (hx : 0 ≤ x) (hy : 0 ≤ y) (ux : Ty.U64 x.toNat) (uy : Ty.U64 y.toNat) (w : World) (hw : Ty.Tabs w) :
    Calls Tryd.prog 7 #[.int .u64 x, .int .u64 y] w fun e w' => e = .returned (.bool true) ∧ Below w.heap.size w w' := by
  have HW := Lib.hid (Ty.order_ways x y hx hy ux uy)
  go_enter Tryd.func7, Tryd.ntmps7
  go_wp2_with fail
  refine (Ty.lives_c _ hw).mono ?_
  rintro e w1 ⟨rfl, hb⟩
  have hT := hw.below hb hw.two
  go_wp2_with fail
  go_region_with (first
    | (go_at_call_of 11 (Value.int IntKind.u64 x); refine (Ty.uintNil x hx ux _ ?_).mono ?_; exact hT.drew; rintro e wa ⟨va, rfl, hBa, hTa, hba⟩; have hca := hBa.str)
    | (go_at_call_of 11 (Value.int IntKind.u64 y); refine (Ty.uintNil y hy uy _ ?_).mono ?_; exact hTa; rintro e wb ⟨vb, rfl, hBb, hTb, hbb⟩; have hcb := hBb.str; have hca2 := (hBa.later hbb).str))
  all_goals
    try clear hca hcb hca2
    have hend : Below w.heap.size w wb := hb.trans ((((Below.refl _ w1).drew.trans hba).mono hb.size).trans (hbb.mono (Nat.le_trans hb.size hba.size)))
    rcases HW.out with rfl | ⟨e1, e2, e3⟩ | ⟨e1, e2, e3, e4⟩ | ⟨e1, e2, e3, e4, e5, e6⟩
    all_goals
      go_wp2
      go_ret
      exact ⟨rfl, hend⟩
end Go.Proofs.YthfcpdifkgjjhaaDoor
