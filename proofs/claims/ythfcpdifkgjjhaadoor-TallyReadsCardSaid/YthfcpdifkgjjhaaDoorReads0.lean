/-
  The walk of the law TallyReads over no things at all; how long a slice of things may be.
-/
import Derived.Test.YthfcpdifkgjjhaaDoorL9
import Derived.Test.YthfcpdifkgjjhaaDoorOpen
namespace Go.Proofs.YthfcpdifkgjjhaaDoor
open Go.RowKit Go.ChangeShapes Go.WideShapes Go.ChangeAt Go.Deep
theorem Ty.ths_max {H : Type} {enc : TypeId × Value → H} {W : World} {a0 : Option Addr} {len cap : Nat} {d : DataW H} {ps : List MemPlace} (h : DataW.Trod enc Tryd.prog W 0 (fun _ => true) true 32 (.slice a0 len cap) d ps) : len ≤ 9223372036854775807 := by
  obtain ⟨fuel, hf⟩ := h
  rcases open_slice Tryd.underlying32 hf with ⟨hcs, _⟩ | ⟨a, len', cap', m, n, D, Pl, hcs, _, hl, hm, _⟩
  · have hv : Value.slice a0 len cap = .slice none 0 0 := by simpa [Value.cells] using hcs
    simp only [Value.slice.injEq] at hv
    omega
  · have hv : Value.slice a0 len cap = .slice (some a) len' cap' := by simpa [Value.cells] using hcs
    simp only [Value.slice.injEq] at hv
    unfold maxLen at hm
    omega
set_option maxRecDepth 100000 in
set_option maxHeartbeats 1000000 in
theorem Ty.reads_0 (s : ByteArray) (ao : Option Addr) (c : Nat) (w : World) (hw : Ty.Tabs w) :
    Calls Tryd.prog 4 #[.string s, .slice ao 0 c] w fun e w' => e = .returned (.bool true) ∧ Below w.heap.size w w' := by
  go_enter Tryd.func4, Tryd.ntmps4
  go_wp2_with fail
  refine (Ty.lives_c _ hw).mono ?_
  rintro e w1 ⟨rfl, hb1⟩
  have hT1 := hw.below hb1 hw.two
  go_wp2_with fail
  refine (Ty.from_f s.data.toList _ hT1).mono ?_
  rintro e w2 ⟨rfl, hC, hT2, hg2⟩
  have hb2 := hb1.trans (Ty.below_none hg2 hb1.size)
  have hb3 := hb2.alloc hb2.size (.cells #[.string s, .int .i64 0, .int .i64 0] 38)
  go_wp2_with fail
  refine wp_loop_rounds 1 ?_; rw [rounds_succ]
  go_wp2
  go_ret
  exact ⟨rfl, hb3⟩
end Go.Proofs.YthfcpdifkgjjhaaDoor
