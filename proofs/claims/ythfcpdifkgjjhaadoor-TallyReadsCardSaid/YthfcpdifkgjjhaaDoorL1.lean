/-
  The laws' own 'lives' answers true.
-/
import Derived.Test.YthfcpdifkgjjhaaDoorW7
namespace Go.Proofs.YthfcpdifkgjjhaaDoor
open Go.RowKit
theorem Ty.Tabs.below {w w' : World} (h : Ty.Tabs w) {b : Nat} (hb : Below b w w') (hG : Ty.G ≤ b) : Ty.Tabs w' := h.kept hb.size fun k hk => hb.block k (by omega)
theorem Ty.below_by {w w' : World} {B : Nat} {r : Option Nat} (hg : w.grownBy w' r) (hB : B ≤ w.heap.size) (hr : ∀ k, r = some k → B ≤ k) : Below B w w' :=
  (Below.refl B w).grown hg hB hr
theorem Ty.Cur.by {b : Nat} {w w' : World} {l : List UInt8} {e : Nat} (h : Ty.Cur b w l e) {r : Option Nat} (hg : w.grownBy w' r) (hr : r ≠ some b) : Ty.Cur b w' l e := by
  unfold Ty.Cur at h ⊢
  rw [hg.block b (lt_of_block h) (fun e => hr e.symm)]
  exact h
theorem Ty.Cur.at_new (w : World) (l : List UInt8) : Ty.Cur w.heap.size (w.alloc (.cells #[.string (Ty.S l), .int .i64 0] 57 (0, 0))) l 0 := heap_alloc_new w _
theorem Ty.Tabs.alloc {w : World} (h : Ty.Tabs w) (o : Obj) : Ty.Tabs (w.alloc o) := h.below ((Below.refl w.heap.size w).alloc (Nat.le_refl _) o) h.two
set_option maxHeartbeats 400000 in
theorem Ty.lives_c (w : World) (hw : Ty.Tabs w) :
    Calls Tryd.prog 10 #[] w fun e w' => e = .returned (.bool true) ∧ Below w.heap.size w w' := by
  go_enter Tryd.func10, Tryd.ntmps10
  go_wp2_with fail
  refine (Ty.from_c [64, 64] w).mono ?_
  rintro e w1 ⟨rfl, hw1⟩
  have hb1 : Below w.heap.size w w1 := by rw [hw1]; exact (Below.refl _ _).alloc (Nat.le_refl _) _
  have ht1 : Ty.Tabs w1 := by rw [hw1]; exact hw.alloc _
  have hc1 : Ty.Cur w.heap.size w1 [64, 64] 0 := by rw [hw1]; exact Ty.Cur.at_new w _
  clear hw1
  go_wp2_with fail
  refine (Ty.uint_c w1.heap.size _ [] 64 (by omega) (by show (64 : Nat) < 2 ^ 64; omega) w1 ht1 (Ty.Buf.nil _ _) (Nat.le_refl _) (by simp)).mono ?_
  rintro e w2 ⟨v2, rfl, hB, hG⟩
  have ht2 : Ty.Tabs w2 := ht1.by hG.by_ (by intro k hk; cases hk)
  have hc2 : Ty.Cur w.heap.size w2 [64, 64] 0 := hc1.by hG.by_ (by intro hk; cases hk)
  have hb2 : Below w.heap.size w w2 := hb1.trans (Ty.below_by hG.by_ hb1.size (by intro k hk; cases hk))
  have hcv := Ty.Buf.string (P := Tryd.prog) hB 22 9 Tryd.underlying22 Tryd.underlying5 Tryd.underlying9
  have he : ((⟨([] ++ Ty.encU (64 : Int).toNat).toArray⟩ : ByteArray).toList == (⟨#[64, 64]⟩ : ByteArray).toList) = true := by rw [ByteArray.toList_eq, ByteArray.toList_eq]; decide
  clear hB hG ht1 hc1 hb1
  go_wp2_with fail
  refine (Ty.left_c _ _ _ _ hc2).mono ?_
  rintro e w3 ⟨rfl, rfl⟩
  go_wp2_with fail
  refine (Ty.cuint_c _ _ _ _ ht2 hc2 (by simp)).mono ?_
  rintro e w4 ⟨rfl, hc4, hg4⟩
  have er : Ty.rdU [64, 64] 0 = (64, [], 0) := by decide
  rw [er] at hc4 ⊢
  have hb4 : Below w.heap.size w w4 := hb2.trans (Ty.below_by hg4 hb2.size (by intro k hk; cases hk; exact Nat.le_refl _))
  clear er hg4 hb2
  go_wp2_with fail
  refine (Ty.done_c _ _ _ _ hc4).mono ?_
  rintro e w5 ⟨rfl, rfl⟩
  have ef : Ty.fin [] 0 = 0 := by decide
  rw [ef]
  go_wp2
  go_ret
  exact ⟨rfl, hb4⟩
end Go.Proofs.YthfcpdifkgjjhaaDoor
