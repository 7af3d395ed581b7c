/-
  The walks of the laws BitsTruths, BitsUnpack, BitsPack.
-/
import Derived.Test.YtbgjkohbonapiaaL31
namespace Go.Proofs.Ytbgjkohbonapiaa
open Go.RowKit
theorem Bt.utN_le (s : ByteArray) (z : Int) : Bt.utN s z ≤ 140737488355328 := by
  unfold Bt.utN
  split
  · rename_i h
    unfold Bt.utE at h
    split at h
    · omega
    · cases h
  · omega
theorem Bt.upN_le (s : ByteArray) (z y : Int) : Bt.upN s z y ≤ 140737488355328 := by
  unfold Bt.upN
  split
  · rename_i h
    unfold Bt.upE at h
    split at h
    · omega
    · cases h
  · omega
theorem Bt.packV_form (n : Nat) (X : Nat → Nat) (z : Int) : ∃ (S : ByteArray) (E : Int), Bt.packV n X z = .tuple #[.string S, .int .i64 E] := by
  unfold Bt.packV
  split
  · split
    · exact ⟨_, _, rfl⟩
    · exact ⟨_, _, rfl⟩
  · exact ⟨_, _, rfl⟩
set_option maxHeartbeats 1000000 in
theorem Bt.lawTruths_w (v : Value) (n : Nat) (T : Nat → Bool) (s : ByteArray) (z : Int) (w : World) (h : Bt.Sl w v n (Bt.bv T)) (hn : n ≤ 140737488355328) (hs : s.size ≤ 140737488355328) :
    Calls Try.prog 3 #[v, .string s, .int .i64 z] w fun e w' => e = .returned (.bool true) ∧ Below w.heap.size w w' := by
  have c1 := fun w => Bt.untruths_c s z w hs
  have c2 := fun w => Bt.runtruths_c s z w hs
  have hle := Bt.utN_le s z
  generalize Bt.utE s z = E at c1 c2
  generalize Bt.utN s z = m at c1 c2 hle
  have HS := Lib.hid hs
  clear hs
  go_enter Try.func3, Try.ntmps3
  go_wp2_with fail
  refine (Bt.lives_c _).mono ?_
  rintro e w1 ⟨rfl, g1⟩
  have h1 := h.later g1
  have hb1 := g1
  go_wp2_with fail
  refine (c1 _).mono ?_
  rintro e w2 ⟨v1, rfl, k1, g2⟩
  have h2 := h1.later g2
  have hb2 := hb1.trans (g2.mono hb1.size)
  clear c1 h h1 hb1 g1 g2
  go_wp2_with fail
  refine (c2 _).mono ?_
  rintro e w3 ⟨v2, rfl, k2, g3⟩
  have h3 := h2.later g3
  have k3 := k1.later g3
  have hb3 := hb2.trans (g3.mono hb2.size)
  clear c2 h2 k1 hb2 g3
  have c3 := Bt.truths_c v n T _ h3 hn
  go_wp2_with fail
  refine c3.mono ?_
  rintro e w4 ⟨rfl, g4⟩
  have h4 := h3.later g4
  have k4 := k3.later g4
  have k5 := k2.later g4
  have hb4 := hb3.trans (g4.mono hb3.size)
  clear c3 h3 k3 k2 hb3 g4
  have c4 := Bt.rbytes_c v n T _ h4 hn
  go_wp2_with fail
  refine c4.mono ?_
  rintro e w5 ⟨rfl, g5⟩
  have k6 := k4.later g5
  have k7 := k5.later g5
  have hb5 := hb4.trans (g5.mono hb4.size)
  clear c4 h4 k4 k5 hb4 g5
  have c5 := Bt.sameT_c v1 v2 m (Bt.bit s) _ k6 k7 hle
  have H5 := Lib.hid hb5
  clear k6 k7 hb5 hle hn
  go_wp2_with fail
  refine c5.mono ?_
  rintro e w6 ⟨rfl, g6⟩
  have hb6 := H5.out.trans (g6.mono H5.out.size)
  clear c5 g6
  go_wp2
  go_ret
  exact ⟨rfl, hb6⟩
set_option maxHeartbeats 1000000 in
theorem Bt.lawUnpack_w (s : ByteArray) (z y : Int) (w : World) (hs : s.size ≤ 140737488355328) :
    Calls Try.prog 5 #[.string s, .int .i64 z, .int .i64 y] w fun e w' => e = .returned (.bool true) ∧ Below w.heap.size w w' := by
  have c1 := fun w => Bt.unpack_c s z y w hs
  have c2 := fun w => Bt.runpack_c s z y w hs
  have hle := Bt.upN_le s z y
  generalize Bt.upE s z y = E at c1 c2
  generalize Bt.upN s z y = m at c1 c2 hle
  clear hs
  go_enter Try.func5, Try.ntmps5
  go_wp2_with fail
  refine (Bt.lives_c _).mono ?_
  rintro e w1 ⟨rfl, hb1⟩
  go_wp2_with fail
  refine (c1 _).mono ?_
  rintro e w2 ⟨v1, rfl, k1, g2⟩
  have hb2 := hb1.trans (g2.mono hb1.size)
  clear c1 hb1 g2
  go_wp2_with fail
  refine (c2 _).mono ?_
  rintro e w3 ⟨v2, rfl, k2, g3⟩
  have k3 := k1.later g3
  have hb3 := hb2.trans (g3.mono hb2.size)
  clear c2 k1 hb2 g3
  have c5 := Bt.sameN_c v1 v2 m _ _ k3 k2 hle
  have H3 := Lib.hid hb3
  clear k3 k2 hb3 hle
  go_wp2_with fail
  refine c5.mono ?_
  rintro e w4 ⟨rfl, g4⟩
  have hb4 := H3.out.trans (g4.mono H3.out.size)
  clear c5 g4
  go_wp2
  go_ret
  exact ⟨rfl, hb4⟩
set_option maxHeartbeats 1000000 in
theorem Bt.lawPack_w (v : Value) (n : Nat) (X : Nat → Nat) (z : Int) (w : World) (h : Bt.Sl w v n (Bt.nv X)) (hX : ∀ i, X i < 2 ^ 64) (hn : n ≤ 1099511627776) :
    Calls Try.prog 4 #[v, .int .i64 z] w fun e w' => e = .returned (.bool true) ∧ Below w.heap.size w w' := by
  have c1 := fun w h => Bt.pack_c v n X z w h hX (by omega)
  have c2 := fun w h => Bt.rpack_c v n X z w h hX hn
  have c3 := fun w h => Bt.width_c v n X w h hX (by omega)
  have c4 := fun w h => Bt.rwidth_c v n X w h hX (by omega)
  obtain ⟨S, E, hE⟩ := Bt.packV_form n X z
  rw [hE] at c1 c2
  clear hE hX hn
  go_enter Try.func4, Try.ntmps4
  go_wp2_with fail
  refine (Bt.lives_c _).mono ?_
  rintro e w1 ⟨rfl, hb1⟩
  have h1 := h.later hb1
  have d1 := c1 _ h1
  clear h c1
  go_wp2_with fail
  refine d1.mono ?_
  rintro e w2 ⟨rfl, g2⟩
  have h2 := h1.later g2
  have hb2 := hb1.trans (g2.mono hb1.size)
  have d2 := c2 _ h2
  clear d1 c2 h1 hb1 g2
  go_wp2_with fail
  refine d2.mono ?_
  rintro e w3 ⟨rfl, g3⟩
  have h3 := h2.later g3
  have hb3 := hb2.trans (g3.mono hb2.size)
  have d3 := c3 _ h3
  have d4 := c4 _ h3
  have H3 := Lib.hid hb3
  clear d2 c3 c4 h2 h3 hb2 g3 hb3
  go_wp2_with fail
  refine d3.mono ?_
  rintro e w4 ⟨rfl, rfl⟩
  clear d3
  go_wp2_with fail
  refine d4.mono ?_
  rintro e w5 ⟨rfl, rfl⟩
  clear d4
  go_wp2
  go_ret
  exact ⟨rfl, H3.out⟩
end Go.Proofs.Ytbgjkohbonapiaa
