/-
  The laws of package column: ColumnBack, ColumnOnly.
-/
import Derived.Test.YtcognkgabdaneaaGreatDoorC7
namespace Go.Proofs.YtcognkgabdaneaaGreatDoor
open Go.RowKit
theorem Cl.wE_0 {c : Kn.C} {l : List Kn.V} (h : Cl.wE c l = 0) : c.good = true ∧ l.length ≤ 65536 ∧ l.all (Cl.is c) = true := by
  unfold Cl.wE at h
  by_cases hg : c.good = true
  · rw [if_pos hg] at h
    by_cases hl : 65536 < l.length
    · rw [if_pos hl] at h; cases h
    · rw [if_neg hl] at h
      by_cases ha : l.all (Cl.is c) = true
      · exact ⟨hg, by omega, ha⟩
      · rw [if_neg ha] at h; cases h
  · rw [if_neg hg] at h; cases h
theorem Cl.enc_len {c : Kn.C} {l : List Kn.V} (h : Cl.wE c l = 0) : (Cl.enc c l).length ≤ 5000000 := by
  obtain ⟨_, hl, ha⟩ := Cl.wE_0 h
  have h1 := Cl.vals_len ha hl
  have h2 := Ty.encU_len9 l.length
  have h3 := (Bt.need_room l.length).2
  unfold Cl.enc
  rw [List.length_append, List.length_append, Bt.length_data, Bt.size_bytes]
  omega
theorem Cl.rdV_bad {c : Kn.C} {T : List Bool} {r : List UInt8} (h : (Cl.rdV c T r).1 ≠ 0) : (Cl.rdV c T r).2 = [] := by
  unfold Cl.rdV at h ⊢
  split
  · rfl
  · rename_i a1
    rw [if_neg a1] at h
    split
    · rfl
    · rename_i out e
      rw [e] at h
      simp only at h
      split
      · rename_i a2
        rw [if_pos a2] at h
        exact absurd rfl h
      · rfl
theorem Cl.rd_bad {c : Kn.C} {l : List UInt8} (h : (Cl.rd c l).1 ≠ 0) : (Cl.rd c l).2 = [] := by
  unfold Cl.rd at h ⊢
  split
  · rfl
  · split
    · rfl
    · split
      · rfl
      · split
        · rfl
        · split
          · rfl
          · split
            · rfl
            · rename_i a1 a2 a3 a4 a5 a6
              rw [if_neg a1, if_neg a2, if_neg a3, if_neg a4, if_neg a5, if_neg a6] at h
              exact Cl.rdV_bad h
set_option maxHeartbeats 1000000 in
set_option maxRecDepth 100000 in
theorem Cl.lawBack_w (c : Kn.C) (v : Value) (l : List Kn.V) (w : World) (hw : Cl.T w) (hv : Kn.Vals w v l) (hi : ∀ v ∈ l, Ty.I64 v.n) :
    Calls Tryz.prog 5 #[c.val, v] w fun e w' => e = .returned (.bool true) ∧ Below w.heap.size w w' := by
  have c1 := fun wz hT h => Cl.write_c c v l wz hT h hi
  have hX0 := Kn.cell_new w #[.int .i64 c.k, .bool c.null] 24 0 _ rfl
  have hX1 := Kn.cell_new w #[.int .i64 c.k, .bool c.null] 24 1 _ rfl
  simp only [List.getElem_toArray, List.getElem_cons_zero, List.getElem_cons_succ] at hX0 hX1
  have HX0 := Lib.hid hX0
  have HX1 := Lib.hid hX1
  have HV := Lib.hid hv
  have g0 : Below w.heap.size w (w.alloc (.cells #[.int .i64 c.k, .bool c.null] 24)) := (Below.refl _ _).alloc (Nat.le_refl _) _
  have hsz : (w.alloc (.cells #[.int .i64 c.k, .bool c.null] 24)).heap.size = w.heap.size + 1 := World.size_alloc ..
  clear hX0 hX1 hv
  by_cases hE : Cl.wE c l = 0
  · have c2 := fun wz hT => Cl.read_c c (Ty.S (Cl.enc c l)) wz hT (by rw [Ty.size_S]; have := Cl.enc_len hE; omega)
    rw [Ty.data_S, Cl.rd_enc hE hi] at c2
    rw [Cl.wV_ok hE] at c1
    generalize Ty.S (Cl.enc c l) = S at c1 c2
    unfold Kn.C.val at c1 c2 ⊢
    clear hE hi
    go_enter Tryz.func5, Tryz.ntmps5
    go_wp2_with fail
    generalize hwo : w.alloc _ = wo at hsz HX0 HX1 g0 ⊢
    refine (Cl.lives_c _ (hw.below g0)).mono ?_
    rintro e w1 ⟨rfl, b1⟩
    have hb1 := g0.trans (b1.mono g0.size)
    have y0 := (b1.cell (p := ⟨w.heap.size, 0, none⟩) (by simp [hsz])).trans HX0.out
    have y1 := (b1.cell (p := ⟨w.heap.size, 1, none⟩) (by simp [hsz])).trans HX1.out
    have hs1 : w.heap.size < w1.heap.size := by have := b1.size; omega
    have HY0 := Lib.hid y0
    have HY1 := Lib.hid y1
    have d1 := c1 _ (hw.below hb1) (HV.out.later hb1)
    clear c1 hwo g0 b1
    go_wp2_with fail
    refine d1.mono ?_
    rintro e w2 ⟨rfl, g2⟩
    have hb2 := hb1.trans (g2.mono hb1.size)
    have y0 := (g2.cell (p := ⟨w.heap.size, 0, none⟩) hs1).trans HY0.out
    have y1 := (g2.cell (p := ⟨w.heap.size, 1, none⟩) hs1).trans HY1.out
    have d2 := c2 _ (hw.below hb2)
    clear d1 c2 hb1 g2
    go_wp2_with fail
    refine d2.mono ?_
    rintro e w3 ⟨v3, rfl, hV3, g3⟩
    have hb3 := hb2.trans (g3.mono hb2.size)
    have cs := Kn.rsame_c v3 v l l w3 hV3 (HV.out.later hb3)
    rw [Kn.sameR_self] at cs
    clear d2 hb2 g3 hV3
    simp only [Int.natCast_zero]
    go_wp2_with fail
    refine cs.mono ?_
    rintro e w4 ⟨rfl, n, rfl⟩
    go_wp2
    go_ret
    exact ⟨rfl, Kn.below_drewN hb3 n⟩
  · rw [Cl.wV_bad rfl hE] at c1
    have hz : (((Cl.wE c l : Nat) : Int) != 0) = true := by rw [bne_iff_ne]; omega
    have hem : Ty.S [] = (⟨#[]⟩ : ByteArray) := rfl
    rw [hem] at c1
    generalize ((Cl.wE c l : Nat) : Int) = E at c1 hz
    unfold Kn.C.val at c1 ⊢
    clear hE hi hem
    go_enter Tryz.func5, Tryz.ntmps5
    go_wp2_with fail
    generalize hwo : w.alloc _ = wo at hsz HX0 HX1 g0 ⊢
    refine (Cl.lives_c _ (hw.below g0)).mono ?_
    rintro e w1 ⟨rfl, b1⟩
    have hb1 := g0.trans (b1.mono g0.size)
    have y0 := (b1.cell (p := ⟨w.heap.size, 0, none⟩) (by simp [hsz])).trans HX0.out
    have y1 := (b1.cell (p := ⟨w.heap.size, 1, none⟩) (by simp [hsz])).trans HX1.out
    have d1 := c1 _ (hw.below hb1) (HV.out.later hb1)
    clear c1 hwo g0 b1
    go_wp2_with fail
    refine d1.mono ?_
    rintro e w2 ⟨rfl, g2⟩
    have hb2 := hb1.trans (g2.mono hb1.size)
    clear d1 hb1 g2
    go_wp2
    go_ret
    exact ⟨rfl, hb2⟩
set_option maxHeartbeats 1000000 in
set_option maxRecDepth 100000 in
theorem Cl.lawOnly_w (c : Kn.C) (s : ByteArray) (w : World) (hw : Cl.T w) (hs : s.size ≤ 140737488351232) :
    Calls Tryz.prog 6 #[c.val, .string s] w fun e w' => e = .returned (.bool true) ∧ Below w.heap.size w w' := by
  have c1 := fun wz hT => Cl.read_c c s wz hT hs
  have hX0 := Kn.cell_new w #[.int .i64 c.k, .bool c.null] 24 0 _ rfl
  have hX1 := Kn.cell_new w #[.int .i64 c.k, .bool c.null] 24 1 _ rfl
  simp only [List.getElem_toArray, List.getElem_cons_zero, List.getElem_cons_succ] at hX0 hX1
  have HX0 := Lib.hid hX0
  have HX1 := Lib.hid hX1
  have g0 : Below w.heap.size w (w.alloc (.cells #[.int .i64 c.k, .bool c.null] 24)) := (Below.refl _ _).alloc (Nat.le_refl _) _
  have hsz : (w.alloc (.cells #[.int .i64 c.k, .bool c.null] 24)).heap.size = w.heap.size + 1 := World.size_alloc ..
  clear hX0 hX1 hs
  by_cases hE : (Cl.rd c s.data.toList).1 = 0
  · obtain ⟨e1, e2, _, e4⟩ := Cl.enc_rd hE
    have c2 := fun wz v hT h => Cl.write_c c v (Cl.rd c s.data.toList).2 wz hT h e4
    rw [Cl.wV_ok e1, e2, Ty.S_data] at c2
    generalize Cl.rd c s.data.toList = R at c1 c2 hE
    obtain ⟨E, L⟩ := R
    simp only at hE c1 c2
    subst hE
    unfold Kn.C.val at c1 c2 ⊢
    clear e1 e2 e4
    have hself : (s.toList == s.toList) = true := by simp
    go_enter Tryz.func6, Tryz.ntmps6
    go_wp2_with fail
    generalize hwo : w.alloc _ = wo at hsz HX0 HX1 g0 ⊢
    refine (Cl.lives_c _ (hw.below g0)).mono ?_
    rintro e w1 ⟨rfl, b1⟩
    have hb1 := g0.trans (b1.mono g0.size)
    have y0 := (b1.cell (p := ⟨w.heap.size, 0, none⟩) (by simp [hsz])).trans HX0.out
    have y1 := (b1.cell (p := ⟨w.heap.size, 1, none⟩) (by simp [hsz])).trans HX1.out
    have hs1 : w.heap.size < w1.heap.size := by have := b1.size; omega
    have HY0 := Lib.hid y0
    have HY1 := Lib.hid y1
    have d1 := c1 _ (hw.below hb1)
    clear c1 hwo g0 b1
    go_wp2_with fail
    refine d1.mono ?_
    rintro e w2 ⟨v2, rfl, hV2, g2⟩
    have hb2 := hb1.trans (g2.mono hb1.size)
    have y0 := (g2.cell (p := ⟨w.heap.size, 0, none⟩) hs1).trans HY0.out
    have y1 := (g2.cell (p := ⟨w.heap.size, 1, none⟩) hs1).trans HY1.out
    have d2 := c2 _ v2 (hw.below hb2) hV2
    clear d1 c2 hb1 g2 hV2
    simp only [Int.natCast_zero]
    go_wp2_with fail
    refine d2.mono ?_
    rintro e w3 ⟨rfl, g3⟩
    have hb3 := hb2.trans (g3.mono hb2.size)
    clear d2 hb2 g3
    go_wp2
    go_ret
    exact ⟨rfl, hb3⟩
  · have hL := Cl.rd_bad hE
    generalize Cl.rd c s.data.toList = R at c1 hE hL
    obtain ⟨E, L⟩ := R
    simp only at hE c1 hL
    subst hL
    have hz : (((E : Nat) : Int) != 0) = true := by rw [bne_iff_ne]; omega
    unfold Kn.C.val at c1 ⊢
    clear hE
    go_enter Tryz.func6, Tryz.ntmps6
    go_wp2_with fail
    generalize hwo : w.alloc _ = wo at hsz HX0 HX1 g0 ⊢
    refine (Cl.lives_c _ (hw.below g0)).mono ?_
    rintro e w1 ⟨rfl, b1⟩
    have hb1 := g0.trans (b1.mono g0.size)
    have y0 := (b1.cell (p := ⟨w.heap.size, 0, none⟩) (by simp [hsz])).trans HX0.out
    have y1 := (b1.cell (p := ⟨w.heap.size, 1, none⟩) (by simp [hsz])).trans HX1.out
    have d1 := c1 _ (hw.below hb1)
    clear c1 hwo g0 b1
    go_wp2_with fail
    refine d1.mono ?_
    rintro e w2 ⟨v2, rfl, hV2, g2⟩
    have hb2 := hb1.trans (g2.mono hb1.size)
    obtain ⟨a, cp, rfl, _⟩ := hV2.is
    clear d1 hb1 g2 hV2
    simp only
    generalize ((E : Nat) : Int) = z at hz ⊢
    go_wp2
    go_ret
    exact ⟨rfl, hb2⟩
end Go.Proofs.YtcognkgabdaneaaGreatDoor
