/-
  The walks of the laws of tally that take plain numbers: TallyNil.
-/
import Derived.Test.YthfcpdifkgjjhaaDoorL1
namespace Go.Proofs.YthfcpdifkgjjhaaDoor
open Go.RowKit
set_option maxHeartbeats 400000 in
theorem Ty.nil_w (m : Int) (w : World) (hw : Ty.Tabs w) :
    Calls Tryd.prog 8 #[.int .i64 m] w fun e w' => e = .returned (.bool true) ∧ Below w.heap.size w w' := by
  go_enter Tryd.func8, Tryd.ntmps8
  go_wp2_with fail
  refine (Ty.lives_c _ hw).mono ?_
  rintro e w1 ⟨rfl, hb⟩
  go_wp2_with fail
  refine (Ty.cuint_nil _).mono ?_
  rintro e w' ⟨rfl, rfl⟩
  go_wp2_with fail
  refine (Ty.cint_nil _).mono ?_
  rintro e w' ⟨rfl, rfl⟩
  go_wp2_with fail
  refine (Ty.ctext_nil _ _).mono ?_
  rintro e w' ⟨rfl, rfl⟩
  have he : ((Ty.S []).toList == (⟨#[]⟩ : ByteArray).toList) = true := by rw [ByteArray.toList_eq, ByteArray.toList_eq]; decide
  have hem : (Ty.S []).toList.isEmpty = true := by rw [ByteArray.toList_eq]; rfl
  go_wp2_with fail
  refine (Ty.cbyte_nil _).mono ?_
  rintro e w' ⟨rfl, rfl⟩
  go_wp2_with fail
  refine (Ty.left_nil _).mono ?_
  rintro e w' ⟨rfl, rfl⟩
  go_wp2_with fail
  refine (Ty.err_nil _).mono ?_
  rintro e w' ⟨rfl, rfl⟩
  go_wp2_with fail
  refine (Ty.done_nil _).mono ?_
  rintro e w' ⟨rfl, rfl⟩
  go_wp2
  go_ret
  exact ⟨rfl, hb⟩
end Go.Proofs.YthfcpdifkgjjhaaDoor
