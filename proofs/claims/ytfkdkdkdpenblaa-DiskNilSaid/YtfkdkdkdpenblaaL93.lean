/-
  The laws of disk: a disk that isn't there.
-/
import Derived.Test.YtfkdkdkdpenblaaZZ
namespace Go.Proofs.Ytfkdkdkdpenblaa
open Go.RowKit
/-- What a step of no disk answers. -/
def Dk.nilE (K : Nat) : Nat := if K ≤ 5 then 1 else 0
set_option maxHeartbeats 4000000 in
set_option maxRecDepth 100000 in
theorem Dk.doesNil_c (k : Int) (sa sb : ByteArray) (n : Int) (aK : Option Addr) (lK cK : Nat) (w : World) :
    Calls Try.prog 15 #[.pointer none, .agg #[.int .i64 k, .string sa, .string sb, .int .i64 n, .slice aK lK cK]] w fun e w' => e = .returned (.int .i64 ((Dk.nilE (Dk.kindOf k) : Nat) : Int)) ∧ Below w.heap.size w w' := by
  obtain ⟨wb, hwb⟩ : ∃ wb, wb = w.alloc (.cells #[.int .i64 k, .string sa, .string sb, .int .i64 n, .slice aK lK cK] 33) := ⟨_, rfl⟩
  have hb0 : Below w.heap.size w wb := by rw [hwb]; exact (Below.refl _ w).alloc (Nat.le_refl _) _
  have d0 : wb.cell? ⟨w.heap.size, 0, none⟩ = some (.int .i64 k) := by rw [hwb]; exact Kn.cell_new w _ _ 0 _ rfl
  have d1 : wb.cell? ⟨w.heap.size, 1, none⟩ = some (.string sa) := by rw [hwb]; exact Kn.cell_new w _ _ 1 _ rfl
  have d2 : wb.cell? ⟨w.heap.size, 2, none⟩ = some (.string sb) := by rw [hwb]; exact Kn.cell_new w _ _ 2 _ rfl
  have d3 : wb.cell? ⟨w.heap.size, 3, none⟩ = some (.int .i64 n) := by rw [hwb]; exact Kn.cell_new w _ _ 3 _ rfl
  have d4 : wb.cell? ⟨w.heap.size, 4, none⟩ = some (.slice aK lK cK) := by rw [hwb]; exact Kn.cell_new w _ _ 4 _ rfl
  have hlt : w.heap.size < wb.heap.size := by rw [hwb, World.size_alloc]; omega
  have ck := Dk.kind_c ⟨k, sa.data.toList, sb.data.toList, n, []⟩ (.slice aK lK cK) wb
  unfold Dk.Step.val at ck
  simp only [Ty.S_data] at ck
  have hkl := Dk.kind_lt k
  have HB0 := Lib.hid hb0
  generalize Dk.kindOf k = K at ck hkl ⊢
  clear hb0
  go_enter Try.func15, Try.ntmps15
  go_wp2_with fail
  rw [← hwb]
  clear hwb
  with_reducible refine ck.mono ?_
  rintro e wk ⟨rfl, gk⟩
  have HBK := Lib.hid (HB0.out.trans (gk.mono HB0.out.size))
  have d1 := (gk.cell (p := ⟨w.heap.size, 1, none⟩) hlt).trans d1
  have d2 := (gk.cell (p := ⟨w.heap.size, 2, none⟩) hlt).trans d2
  have d3 := (gk.cell (p := ⟨w.heap.size, 3, none⟩) hlt).trans d3
  have d4 := (gk.cell (p := ⟨w.heap.size, 4, none⟩) hlt).trans d4
  clear ck d0 gk hlt
  rcases (by omega : K = 0 ∨ K = 1 ∨ K = 2 ∨ K = 3 ∨ K = 4 ∨ K = 5 ∨ K = 6 ∨ K = 7 ∨ K = 8 ∨ K = 9) with rfl | rfl | rfl | rfl | rfl | rfl | rfl | rfl | rfl | rfl
  · have cc := Dk.nilcreate_c sa wk
    go_wp2_with fail
    with_reducible refine cc.mono ?_
    rintro e w1 ⟨rfl, g1⟩
    have HD1 := Lib.hid (HBK.out.trans (g1.mono HBK.out.size))
    clear cc g1
    go_wp2
    go_ret
    exact ⟨rfl, HD1.out⟩
  · have cc := Dk.nilappend_c sa sb wk
    go_wp2_with fail
    with_reducible refine cc.mono ?_
    rintro e w1 ⟨rfl, g1⟩
    have HD1 := Lib.hid (HBK.out.trans (g1.mono HBK.out.size))
    clear cc g1
    go_wp2
    go_ret
    exact ⟨rfl, HD1.out⟩
  · have cc := Dk.nilsync_c sa wk
    go_wp2_with fail
    with_reducible refine cc.mono ?_
    rintro e w1 ⟨rfl, g1⟩
    have HD1 := Lib.hid (HBK.out.trans (g1.mono HBK.out.size))
    clear cc g1
    go_wp2
    go_ret
    exact ⟨rfl, HD1.out⟩
  · have cc := Dk.nilrename_c sa sb wk
    go_wp2_with fail
    with_reducible refine cc.mono ?_
    rintro e w1 ⟨rfl, g1⟩
    have HD1 := Lib.hid (HBK.out.trans (g1.mono HBK.out.size))
    clear cc g1
    go_wp2
    go_ret
    exact ⟨rfl, HD1.out⟩
  · have cc := Dk.nilremove_c sa wk
    go_wp2_with fail
    with_reducible refine cc.mono ?_
    rintro e w1 ⟨rfl, g1⟩
    have HD1 := Lib.hid (HBK.out.trans (g1.mono HBK.out.size))
    clear cc g1
    go_wp2
    go_ret
    exact ⟨rfl, HD1.out⟩
  · have cc := Dk.nilsyncdir_c wk
    go_wp2_with fail
    with_reducible refine cc.mono ?_
    rintro e w1 ⟨rfl, g1⟩
    have HD1 := Lib.hid (HBK.out.trans (g1.mono HBK.out.size))
    clear cc g1
    go_wp2
    go_ret
    exact ⟨rfl, HD1.out⟩
  · have cc := Dk.nilspace_c n wk
    go_wp2_with fail
    with_reducible refine cc.mono ?_
    rintro e w1 ⟨rfl, g1⟩
    have HD1 := Lib.hid (HBK.out.trans (g1.mono HBK.out.size))
    clear cc g1
    go_wp2
    go_ret
    exact ⟨rfl, HD1.out⟩
  · have cc := Dk.nilstop_c n wk
    go_wp2_with fail
    with_reducible refine cc.mono ?_
    rintro e w1 ⟨rfl, g1⟩
    have HD1 := Lib.hid (HBK.out.trans (g1.mono HBK.out.size))
    clear cc g1
    go_wp2
    go_ret
    exact ⟨rfl, HD1.out⟩
  · have cc := Dk.nilrefuse_c n wk
    go_wp2_with fail
    with_reducible refine cc.mono ?_
    rintro e w1 ⟨rfl, g1⟩
    have HD1 := Lib.hid (HBK.out.trans (g1.mono HBK.out.size))
    clear cc g1
    go_wp2
    go_ret
    exact ⟨rfl, HD1.out⟩
  · have cc := Dk.nilcrash_c n aK lK cK wk
    go_wp2_with fail
    with_reducible refine cc.mono ?_
    rintro e w1 ⟨rfl, g1⟩
    have HD1 := Lib.hid (HBK.out.trans (g1.mono HBK.out.size))
    clear cc g1
    go_wp2
    go_ret
    exact ⟨rfl, HD1.out⟩
set_option maxHeartbeats 4000000 in
set_option maxRecDepth 100000 in
theorem Dk.lawNil_w (k : Int) (sa sb : ByteArray) (n : Int) (aK : Option Addr) (lK cK : Nat) (w : World) :
    Calls Try.prog 9 #[.agg #[.int .i64 k, .string sa, .string sb, .int .i64 n, .slice aK lK cK]] w fun e w' => e = .returned (.bool true) ∧ Below w.heap.size w w' := by
  obtain ⟨wb, hwb⟩ : ∃ wb, wb = w.alloc (.cells #[.int .i64 k, .string sa, .string sb, .int .i64 n, .slice aK lK cK] 33) := ⟨_, rfl⟩
  have hb0 : Below w.heap.size w wb := by rw [hwb]; exact (Below.refl _ w).alloc (Nat.le_refl _) _
  have d0 : wb.cell? ⟨w.heap.size, 0, none⟩ = some (.int .i64 k) := by rw [hwb]; exact Kn.cell_new w _ _ 0 _ rfl
  have d1 : wb.cell? ⟨w.heap.size, 1, none⟩ = some (.string sa) := by rw [hwb]; exact Kn.cell_new w _ _ 1 _ rfl
  have d2 : wb.cell? ⟨w.heap.size, 2, none⟩ = some (.string sb) := by rw [hwb]; exact Kn.cell_new w _ _ 2 _ rfl
  have d3 : wb.cell? ⟨w.heap.size, 3, none⟩ = some (.int .i64 n) := by rw [hwb]; exact Kn.cell_new w _ _ 3 _ rfl
  have d4 : wb.cell? ⟨w.heap.size, 4, none⟩ = some (.slice aK lK cK) := by rw [hwb]; exact Kn.cell_new w _ _ 4 _ rfl
  have hlt : w.heap.size < wb.heap.size := by rw [hwb, World.size_alloc]; omega
  have HCE : Hid (∀ W, Below wb.heap.size wb W → W.cell? ⟨w.heap.size, 0, none⟩ = some (.int .i64 k) ∧ W.cell? ⟨w.heap.size, 1, none⟩ = some (.string sa) ∧ W.cell? ⟨w.heap.size, 2, none⟩ = some (.string sb) ∧ W.cell? ⟨w.heap.size, 3, none⟩ = some (.int .i64 n) ∧ W.cell? ⟨w.heap.size, 4, none⟩ = some (.slice aK lK cK)) := Lib.hid fun W g =>
    ⟨(g.cell (p := ⟨w.heap.size, 0, none⟩) hlt).trans d0, (g.cell (p := ⟨w.heap.size, 1, none⟩) hlt).trans d1, (g.cell (p := ⟨w.heap.size, 2, none⟩) hlt).trans d2, (g.cell (p := ⟨w.heap.size, 3, none⟩) hlt).trans d3, (g.cell (p := ⟨w.heap.size, 4, none⟩) hlt).trans d4⟩
  have CK : Hid (∀ W, Calls Try.prog 31 #[.agg #[.int .i64 k, .string sa, .string sb, .int .i64 n, .slice aK lK cK]] W fun e w' => e = .returned (.int .i64 ((Dk.kindOf k : Nat) : Int)) ∧ Below W.heap.size W w') := Lib.hid fun W => by
    have ck := Dk.kind_c ⟨k, sa.data.toList, sb.data.toList, n, []⟩ (.slice aK lK cK) W
    unfold Dk.Step.val at ck
    simp only [Ty.S_data] at ck
    exact ck
  have CD : Hid (∀ W, Calls Try.prog 15 #[.pointer none, .agg #[.int .i64 k, .string sa, .string sb, .int .i64 n, .slice aK lK cK]] W fun e w' => e = .returned (.int .i64 ((Dk.nilE (Dk.kindOf k) : Nat) : Int)) ∧ Below W.heap.size W w') := Lib.hid fun W => Dk.doesNil_c k sa sb n aK lK cK W
  have HB0 := Lib.hid hb0
  generalize Dk.kindOf k = K at CK CD
  clear hb0 d0 d1 d2 d3 d4 hlt
  go_enter Try.func9, Try.ntmps9
  go_wp2_with fail
  rw [← hwb]
  clear hwb
  with_reducible refine (Dk.lives_c _).mono ?_
  rintro e w1 ⟨rfl, g1⟩
  have HB1 := Lib.hid g1
  obtain ⟨d0, d1, d2, d3, d4⟩ := HCE.out w1 HB1.out
  clear g1
  go_wp2_with fail
  with_reducible refine (CD.out _).mono ?_
  rintro e w2 ⟨rfl, g2⟩
  have HB2 := Lib.hid (HB1.out.trans (g2.mono HB1.out.size))
  clear d0 d1 d2 d3 d4 g2
  obtain ⟨d0, d1, d2, d3, d4⟩ := HCE.out w2 HB2.out
  go_wp2_with fail
  with_reducible refine (Dk.nilread_c _ _).mono ?_
  rintro e w3 ⟨rfl, g3⟩
  have HB3 := Lib.hid (HB2.out.trans (g3.mono HB2.out.size))
  clear d0 d1 d2 d3 d4 g3
  obtain ⟨d0, d1, d2, d3, d4⟩ := HCE.out w3 HB3.out
  by_cases hK : K ≤ 5
  · have hE : Dk.nilE K = 1 := if_pos hK
    rw [hE]
    clear hK hE
    go_wp2_with fail
    with_reducible refine (Dk.nilnames_c _).mono ?_
    rintro e w4 ⟨a4, c4, rfl, g4⟩
    have HB4 := Lib.hid (HB3.out.trans (g4.mono HB3.out.size))
    clear g4 d0 d1 d2 d3 d4
    go_wp2_with fail
    with_reducible refine (Dk.nilheld_c _).mono ?_
    rintro e w5 ⟨rfl, g5⟩
    have HB5 := Lib.hid (HB4.out.trans (g5.mono HB4.out.size))
    clear g5
    go_wp2
    go_ret
    exact ⟨rfl, HB0.out.trans (HB5.out.mono HB0.out.size)⟩
  · have hE : Dk.nilE K = 0 := if_neg hK
    have hKi : (K : Int) > 5 := by omega
    rw [hE]
    clear hK hE
    go_wp2_with fail
    with_reducible refine (CK.out _).mono ?_
    rintro e wk ⟨rfl, gk⟩
    have HBk := Lib.hid (HB3.out.trans (gk.mono HB3.out.size))
    clear gk d0 d1 d2 d3 d4
    go_wp2_with fail
    with_reducible refine (Dk.nilnames_c _).mono ?_
    rintro e w4 ⟨a4, c4, rfl, g4⟩
    have HB4 := Lib.hid (HBk.out.trans (g4.mono HBk.out.size))
    clear g4
    go_wp2_with fail
    with_reducible refine (Dk.nilheld_c _).mono ?_
    rintro e w5 ⟨rfl, g5⟩
    have HB5 := Lib.hid (HB4.out.trans (g5.mono HB4.out.size))
    clear g5
    go_wp2
    go_ret
    exact ⟨rfl, HB0.out.trans (HB5.out.mono HB0.out.size)⟩
end Go.Proofs.Ytfkdkdkdpenblaa
