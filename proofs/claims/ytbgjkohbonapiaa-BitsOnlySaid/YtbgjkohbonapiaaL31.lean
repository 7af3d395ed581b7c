/-
  The laws of package bits: that it lives.
-/
import Derived.Test.YtbgjkohbonapiaaB8
namespace Go.Proofs.Ytbgjkohbonapiaa
open Go.RowKit
/-- Three numbers. -/
def Bt.X3 (i : Nat) : Nat := if i = 0 then 1 else if i = 1 then 2 else if i = 2 then 3 else 0
/-- Three truths. -/
def Bt.T3 (i : Nat) : Bool := decide (i = 0) || decide (i = 2)
theorem Bt.X3_lt (i : Nat) : Bt.X3 i < 2 ^ 64 := by unfold Bt.X3; (repeat' split) <;> decide
theorem Bt.pack3 : Bt.packV 3 Bt.X3 2 = .tuple #[.string ⟨#[57]⟩, .int .i64 0] := by kernel_rfl
theorem Bt.upE3 : Bt.upE ⟨#[57]⟩ 3 2 = 0 := by kernel_rfl
theorem Bt.upN3 : Bt.upN ⟨#[57]⟩ 3 2 = 3 := by kernel_rfl
theorem Bt.nums3 : Bt.nv (Bt.nums ⟨#[57]⟩ (2 : Int).toNat) 1 = .int .u64 2 := by kernel_rfl
theorem Bt.truths3 : Bt.bytes (Bt.need 3) (Bt.tr 3 Bt.T3) = ⟨#[5]⟩ := by kernel_rfl
theorem Bt.new3 (w : World) (x y z : Value) (t : TypeId) (f : Nat → Value) (h0 : f 0 = x) (h1 : f 1 = y) (h2 : f 2 = z) : Bt.Sl (w.alloc (.cells #[x, y, z] t)) (.slice (some ⟨w.heap.size, 0, none⟩) 3 3) 3 f := by
  refine ⟨_, 3, rfl, .inr ⟨w.heap.size, 0, rfl, by simp, fun i hi => ?_⟩⟩
  have hn : (w.alloc (.cells #[x, y, z] t)).heap[w.heap.size]? = some (.cells #[x, y, z] t (0, 0)) := Go.Deep.blk_alloc_new _ _
  have hi2 : i = 0 ∨ i = 1 ∨ i = 2 := by omega
  rcases hi2 with rfl | rfl | rfl
  · rw [h0]; unfold World.cell?; simp only [hn]; rfl
  · rw [h1]; unfold World.cell?; simp only [hn]; rfl
  · rw [h2]; unfold World.cell?; simp only [hn]; rfl
set_option maxHeartbeats 1000000 in
theorem Bt.lives_c (w : World) :
    Calls Try.prog 9 #[] w fun e w' => e = .returned (.bool true) ∧ Below w.heap.size w w' := by
  have hS := Bt.new3 w (.int .u64 1) (.int .u64 2) (.int .u64 3) 42 (Bt.nv Bt.X3) rfl rfl rfl
  have c1 := Bt.pack_c _ 3 Bt.X3 2 _ hS Bt.X3_lt (by decide)
  rw [Bt.pack3] at c1
  have g0 : Below w.heap.size w (w.alloc (.cells #[.int .u64 1, .int .u64 2, .int .u64 3] 42)) := (Below.refl _ _).alloc (Nat.le_refl _) _
  have c2 := fun w => Bt.unpack_c ⟨#[57]⟩ 3 2 w (by decide)
  rw [Bt.upE3, Bt.upN3] at c2
  clear hS
  go_enter Try.func9, Try.ntmps9
  go_wp2_with fail
  refine c1.mono ?_
  rintro e w1 ⟨rfl, g1⟩
  have hb1 := g0.trans (g1.mono g0.size)
  clear g0 g1 c1
  go_wp2_with fail
  refine (c2 _).mono ?_
  rintro e w2 ⟨v, rfl, hS2, g2⟩
  have hb2 := hb1.trans (g2.mono hb1.size)
  obtain ⟨a, c, rfl, h⟩ := hS2
  obtain ⟨b, o, rfl, hlt, h⟩ : ∃ b o, a = some ⟨b, o, none⟩ ∧ b < w2.heap.size ∧ ∀ i, i < 3 → w2.cell? ⟨b, o + i, none⟩ = some (Bt.nv (Bt.nums ⟨#[57]⟩ (2 : Int).toNat) i) := by
    rcases h with h | h
    · omega
    · exact h
  have hc := h 1 (by decide)
  rw [Bt.nums3] at hc
  have hT := Bt.new3 w2 (.bool true) (.bool false) (.bool true) 4 (Bt.bv Bt.T3) rfl rfl rfl
  have c3 := Bt.truths_c _ 3 Bt.T3 _ hT (by decide)
  rw [Bt.truths3] at c3
  have g3 : Below w2.heap.size w2 (w2.alloc (.cells #[.bool true, .bool false, .bool true] 4)) := (Below.refl _ _).alloc (Nat.le_refl _) _
  clear h hT c2 hb1 g2
  go_wp2_with fail
  refine c3.mono ?_
  rintro e w3 ⟨rfl, g4⟩
  have hb3 := hb2.trans ((g3.trans (g4.mono g3.size)).mono hb2.size)
  clear g3 g4 c3 hb2
  go_wp2
  go_ret
  exact ⟨rfl, hb3⟩
end Go.Proofs.Ytbgjkohbonapiaa
