/-
  The laws of package column: that it lives; ColumnWrites, ColumnReads.
-/
import Derived.Test.YtcognkgabdaneaaGreatDoorC0
import Derived.Test.YtcognkgabdaneaaGreatDoorKB
namespace Go.Proofs.YtcognkgabdaneaaGreatDoor
open Go.RowKit
theorem Cl.wLive : Cl.wV ⟨1, true⟩ [Cl.nul, Cl.ofN 7] = .tuple #[.string ⟨#[2, 1, 0, 1, 14]⟩, .int .i64 0] := by kernel_rfl
theorem Cl.rdLive : Cl.rd ⟨1, true⟩ [2, 1, 0, 1, 14] = (0, [Cl.nul, Cl.ofN 7]) := by kernel_rfl
theorem Cl.newLive (w : World) : Kn.Vals (w.alloc (.cells #[.bool true, .int .i64 0, .string ⟨#[]⟩, .bool false, .int .i64 7, .string ⟨#[]⟩] 36)) (.slice (some ⟨w.heap.size, 0, none⟩) 2 2) [Cl.nul, Cl.ofN 7] := by
  refine ⟨_, 2, rfl, .inr ⟨w.heap.size, 0, rfl, by simp, by simp, fun i x hx => ?_⟩⟩
  have hi2 : i = 0 ∨ i = 1 := by
    have := (List.getElem?_eq_some_iff.1 hx).1
    simp at this
    omega
  rcases hi2 with rfl | rfl
  · obtain rfl : Cl.nul = x := by simpa using hx
    exact ⟨Kn.cell_new _ _ _ _ _ rfl, Kn.cell_new _ _ _ _ _ rfl, Kn.cell_new _ _ _ _ _ rfl⟩
  · obtain rfl : Cl.ofN 7 = x := by simpa using hx
    exact ⟨Kn.cell_new _ _ _ _ _ rfl, Kn.cell_new _ _ _ _ _ rfl, Kn.cell_new _ _ _ _ _ rfl⟩
theorem Cl.vals_get {w : World} {v : Value} {L : List Kn.V} (h : Kn.Vals w v L) (hne : 0 < L.length) : ∃ b o c, v = .slice (some ⟨b, o, none⟩) L.length c ∧ ∀ i x, L[i]? = some x → Kn.At w b (o + i * 3) x := by
  obtain ⟨a, c, rfl, h⟩ := h
  rcases h with h | ⟨b, o, rfl, _, _, h⟩
  · rw [h] at hne; simp at hne
  · exact ⟨b, o, c, rfl, h⟩
set_option maxHeartbeats 1000000 in
set_option maxRecDepth 100000 in
theorem Cl.lives_c (w : World) (hw : Cl.T w) :
    Calls Tryz.prog 9 #[] w fun e w' => e = .returned (.bool true) ∧ Below w.heap.size w w' := by
  have hA := Cl.newLive (w.alloc (.cells #[.int .i64 1, .bool true] 24))
  have g0 : Below w.heap.size w ((w.alloc (.cells #[.int .i64 1, .bool true] 24)).alloc (.cells #[.bool true, .int .i64 0, .string ⟨#[]⟩, .bool false, .int .i64 7, .string ⟨#[]⟩] 36)) := ((Below.refl _ w).alloc (Nat.le_refl _) _).alloc (by simp) _
  rw [World.size_alloc] at hA
  have hX0 := Kn.cell_new w #[.int .i64 1, .bool true] 24 0 _ rfl
  have hX1 := Kn.cell_new w #[.int .i64 1, .bool true] 24 1 _ rfl
  have hb := (Below.refl _ (w.alloc (.cells #[.int .i64 1, .bool true] 24))).alloc (Nat.le_refl _) (.cells #[.bool true, .int .i64 0, .string ⟨#[]⟩, .bool false, .int .i64 7, .string ⟨#[]⟩] 36)
  have hY0 := (hb.cell (p := ⟨w.heap.size, 0, none⟩) (by simp)).trans hX0
  have hY1 := (hb.cell (p := ⟨w.heap.size, 1, none⟩) (by simp)).trans hX1
  simp only [List.getElem_toArray, List.getElem_cons_zero, List.getElem_cons_succ] at hY0 hY1
  have c1 := Cl.write_c ⟨1, true⟩ _ [Cl.nul, Cl.ofN 7] _ (hw.below g0) hA (fun v hv => by
    simp only [List.mem_cons, List.not_mem_nil, or_false] at hv
    rcases hv with rfl | rfl <;> exact ⟨by decide, by decide⟩)
  rw [Cl.wLive] at c1
  have c2 := fun w hT => Cl.read_c ⟨1, true⟩ ⟨#[2, 1, 0, 1, 14]⟩ w hT (by decide)
  have e0 : (⟨#[2, 1, 0, 1, 14]⟩ : ByteArray).data.toList = [2, 1, 0, 1, 14] := rfl
  rw [e0, Cl.rdLive] at c2
  have hs0 : w.heap.size + 2 ≤ ((w.alloc (.cells #[.int .i64 1, .bool true] 24)).alloc (.cells #[.bool true, .int .i64 0, .string ⟨#[]⟩, .bool false, .int .i64 7, .string ⟨#[]⟩] 36)).heap.size := by simp
  clear hA e0 hX0 hX1 hb
  go_enter Tryz.func9, Tryz.ntmps9
  go_wp2_with fail
  refine c1.mono ?_
  rintro e w1 ⟨rfl, g1⟩
  have hb1 := g0.trans (g1.mono g0.size)
  have hZ0 := (g1.cell (p := ⟨w.heap.size, 0, none⟩) (by show w.heap.size < _; omega)).trans hY0
  have hZ1 := (g1.cell (p := ⟨w.heap.size, 1, none⟩) (by show w.heap.size < _; omega)).trans hY1
  have c3 := c2 _ (hw.below hb1)
  clear g0 g1 c1 c2 hY0 hY1 hs0
  go_wp2_with fail
  refine c3.mono ?_
  rintro e w2 ⟨v, rfl, hS2, g2⟩
  have hb2 := hb1.trans (g2.mono hb1.size)
  obtain ⟨b, o, c, rfl, h⟩ := Cl.vals_get hS2 (by simp)
  have hc0 : w2.cell? ⟨b, o, none⟩ = some (.bool Cl.nul.null) := by simpa using (h 0 Cl.nul rfl).c0
  have hc1 : w2.cell? ⟨b, o + 3 + 1, none⟩ = some (.int .i64 (Cl.ofN 7).n) := by simpa using (h 1 (Cl.ofN 7) rfl).c1
  have e7 : Cl.nul.null = true := rfl
  have e8 : (Cl.ofN 7).n = 7 := rfl
  rw [e7] at hc0
  rw [e8] at hc1
  have el : ([Cl.nul, Cl.ofN 7] : List Kn.V).length = 2 := rfl
  simp only [el, Int.natCast_zero]
  clear h c3 hb1 g2 hS2 el e7 e8
  go_wp2
  go_ret
  exact ⟨rfl, hb2⟩
set_option maxHeartbeats 1000000 in
set_option maxRecDepth 100000 in
theorem Cl.lawWrites_w (c : Kn.C) (v : Value) (l : List Kn.V) (w : World) (hw : Cl.T w) (hv : Kn.Vals w v l) (hi : ∀ v ∈ l, Ty.I64 v.n) :
    Calls Tryz.prog 3 #[c.val, v] w fun e w' => e = .returned (.bool true) ∧ Below w.heap.size w w' := by
  have c1 := fun wz hT h => Cl.write_c c v l wz hT h hi
  have c2 := fun wz h => Cl.rwrite_c c v l wz h hi
  unfold Cl.wV at c1 c2
  generalize Ty.S (Cl.wS c l) = S at c1 c2
  generalize ((Cl.wE c l : Nat) : Int) = E at c1 c2
  have HV := Lib.hid hv
  have hX0 := Kn.cell_new w #[.int .i64 c.k, .bool c.null] 24 0 _ rfl
  have hX1 := Kn.cell_new w #[.int .i64 c.k, .bool c.null] 24 1 _ rfl
  simp only [List.getElem_toArray, List.getElem_cons_zero, List.getElem_cons_succ] at hX0 hX1
  have HX0 := Lib.hid hX0
  have HX1 := Lib.hid hX1
  have g0 : Below w.heap.size w (w.alloc (.cells #[.int .i64 c.k, .bool c.null] 24)) := (Below.refl _ _).alloc (Nat.le_refl _) _
  have hsz : (w.alloc (.cells #[.int .i64 c.k, .bool c.null] 24)).heap.size = w.heap.size + 1 := World.size_alloc ..
  unfold Kn.C.val at c1 c2 ⊢
  clear hv hi hX0 hX1
  go_enter Tryz.func3, Tryz.ntmps3
  go_wp2_with fail
  generalize hwo : w.alloc _ = wo at hsz HX0 HX1 g0 ⊢
  refine (Cl.lives_c _ (hw.below g0)).mono ?_
  rintro e w1 ⟨rfl, b1⟩
  have hb1 := g0.trans (b1.mono g0.size)
  have y0 := (b1.cell (p := ⟨w.heap.size, 0, none⟩) (by simp [hsz])).trans HX0.out
  have y1 := (b1.cell (p := ⟨w.heap.size, 1, none⟩) (by simp [hsz])).trans HX1.out
  have hs1 : w.heap.size < w1.heap.size := by have := b1.size; omega
  have HY0 := Lib.hid y0
  have HY1 := Lib.hid y1
  have d1 := c1 _ (hw.below hb1) (HV.out.later hb1)
  clear c1 hwo g0 b1
  go_wp2_with fail
  refine d1.mono ?_
  rintro e w2 ⟨rfl, g2⟩
  have hb2 := hb1.trans (g2.mono hb1.size)
  have y0 := (g2.cell (p := ⟨w.heap.size, 0, none⟩) hs1).trans HY0.out
  have y1 := (g2.cell (p := ⟨w.heap.size, 1, none⟩) hs1).trans HY1.out
  have d2 := c2 _ (HV.out.later hb2)
  clear d1 c2 hb1 g2
  go_wp2_with fail
  refine d2.mono ?_
  rintro e w3 ⟨rfl, g3⟩
  have hb3 := hb2.trans (g3.mono hb2.size)
  clear d2 hb2 g3
  go_wp2
  go_ret
  exact ⟨rfl, hb3⟩
set_option maxHeartbeats 1000000 in
set_option maxRecDepth 100000 in
theorem Cl.lawReads_w (c : Kn.C) (s : ByteArray) (w : World) (hw : Cl.T w) (hs : s.size ≤ 140737488351232) :
    Calls Tryz.prog 4 #[c.val, .string s] w fun e w' => e = .returned (.bool true) ∧ Below w.heap.size w w' := by
  have c1 := fun wz hT => Cl.read_c c s wz hT hs
  have c2 := fun wz => Cl.rread_c c s wz hs
  generalize Cl.rd c s.data.toList = R at c1 c2
  obtain ⟨E, L⟩ := R
  have HX0 := Lib.hid (Kn.cell_new w #[.int .i64 c.k, .bool c.null] 24 0 _ rfl)
  have HX1 := Lib.hid (Kn.cell_new w #[.int .i64 c.k, .bool c.null] 24 1 _ rfl)
  simp only [List.getElem_toArray, List.getElem_cons_zero, List.getElem_cons_succ] at HX0 HX1
  have g0 : Below w.heap.size w (w.alloc (.cells #[.int .i64 c.k, .bool c.null] 24)) := (Below.refl _ _).alloc (Nat.le_refl _) _
  have hsz : (w.alloc (.cells #[.int .i64 c.k, .bool c.null] 24)).heap.size = w.heap.size + 1 := World.size_alloc ..
  unfold Kn.C.val at c1 c2 ⊢
  clear hs
  go_enter Tryz.func4, Tryz.ntmps4
  go_wp2_with fail
  generalize hwo : w.alloc _ = wo at hsz HX0 HX1 g0 ⊢
  refine (Cl.lives_c _ (hw.below g0)).mono ?_
  rintro e w1 ⟨rfl, b1⟩
  have hb1 := g0.trans (b1.mono g0.size)
  have y0 := (b1.cell (p := ⟨w.heap.size, 0, none⟩) (by simp [hsz])).trans HX0.out
  have y1 := (b1.cell (p := ⟨w.heap.size, 1, none⟩) (by simp [hsz])).trans HX1.out
  have hs1 : w.heap.size < w1.heap.size := by have := b1.size; omega
  have HY0 := Lib.hid y0
  have HY1 := Lib.hid y1
  have d1 := c1 _ (hw.below hb1)
  clear c1 hwo g0 b1
  go_wp2_with fail
  refine d1.mono ?_
  rintro e w2 ⟨v2, rfl, hV2, g2⟩
  have hb2 := hb1.trans (g2.mono hb1.size)
  have HV2 := Lib.hid hV2
  have y0 := (g2.cell (p := ⟨w.heap.size, 0, none⟩) hs1).trans HY0.out
  have y1 := (g2.cell (p := ⟨w.heap.size, 1, none⟩) hs1).trans HY1.out
  have d2 := c2 w2
  clear d1 c2 hb1 g2 hV2
  go_wp2_with fail
  refine d2.mono ?_
  rintro e w3 ⟨v3, rfl, hV3, g3⟩
  have hb3 := hb2.trans (g3.mono hb2.size)
  have cs := Kn.rsame_c v2 v3 L L w3 (HV2.out.later g3) hV3
  rw [Kn.sameR_self] at cs
  clear d2 hb2 g3 hV3
  simp only
  generalize ((E : Nat) : Int) = z
  go_wp2_with fail
  refine cs.mono ?_
  rintro e w4 ⟨rfl, n, rfl⟩
  go_wp2
  go_ret
  exact ⟨rfl, Kn.below_drewN hb3 n⟩
end Go.Proofs.YtcognkgabdaneaaGreatDoor
