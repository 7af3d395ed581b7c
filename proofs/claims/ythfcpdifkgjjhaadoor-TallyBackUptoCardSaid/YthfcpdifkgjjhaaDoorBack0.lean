/-
  The walk of the law TallyBack over no things at all.
-/
import Derived.Test.YthfcpdifkgjjhaaDoorOpen
namespace Go.Proofs.YthfcpdifkgjjhaaDoor
open Go.RowKit
set_option maxRecDepth 100000 in
set_option maxHeartbeats 4000000 in
theorem Ty.back_0 (ao : Option Addr) (c : Nat) (w : World) (hw : Ty.Tabs w) :
    Calls Tryd.prog 5 #[.slice ao 0 c] w fun e w' => e = .returned (.bool true) ∧ Below w.heap.size w w' := by
  go_enter Tryd.func5, Tryd.ntmps5
  go_wp2_with fail
  refine (Ty.lives_c _ hw).mono ?_
  rintro e w1 ⟨rfl, hb1⟩
  have hT1 := hw.below hb1 hw.two
  have hcv := (Ty.Buf.nil w1.heap.size w1).str
  have ef : Ty.fin [] 0 = 0 := by decide
  go_wp2_with fail
  refine wp_loop_rounds 1 ?_; rw [rounds_succ]
  go_wp2_with fail
  refine (Ty.from_f [] _ hT1).mono ?_
  rintro e w2 ⟨rfl, hC, hT2, hg2⟩
  have hb2 := hb1.trans (Ty.below_none hg2 hb1.size)
  clear hcv
  go_wp2_with fail
  refine wp_loop_rounds 1 ?_; rw [rounds_succ]
  go_wp2_with fail
  refine (Ty.done_c _ _ _ _ hC).mono ?_
  rintro e w3 ⟨rfl, rfl⟩
  rw [ef]
  go_wp2_with fail
  refine (Ty.left_c _ _ _ _ hC).mono ?_
  rintro e w4 ⟨rfl, rfl⟩
  go_wp2
  go_ret
  exact ⟨rfl, hb2⟩
end Go.Proofs.YthfcpdifkgjjhaaDoor
