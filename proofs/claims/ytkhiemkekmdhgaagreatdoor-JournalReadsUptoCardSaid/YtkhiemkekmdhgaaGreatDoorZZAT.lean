import Derived.Test.YtkhiemkekmdhgaaGreatDoorZZAS
import Derived.Test.YtkhiemkekmdhgaaGreatDoorZZAJ
namespace Go.Proofs.YtkhiemkekmdhgaaGreatDoor
open Go Go.RowKit
set_option maxHeartbeats 4000000 in
set_option maxRecDepth 100000 in
theorem Jn.reads_w (v : Value) (s : List Kn.C) (t : ByteArray) (d : Dd.D) (u : Value) (w : World) (hT : Jn.T w) (hs : Dd.Cols w v s) (ht : t.size ≤ 4194304) (hu : Kn.Vals w u d.row) (hi : ∀ x ∈ d.row, Ty.I64 x.n) :
 Calls Tryz.prog 3 #[v, .string t, .agg #[.bool d.gone, u]] w fun e w' => e = .returned (.bool true) ∧ Below w.heap.size w w' := by
 have HS := Lib.hid hs
 have HU := Lib.hid hu
 have HT := Lib.hid fun (W : World) (g : Below w.heap.size w W) => hT.below g
 have CR := Lib.hid fun (W : World) (g : Below w.heap.size w W) => Jn.read_c v s t W (HT.out W g) (HS.out.later g) ht
 have CD := Lib.hid fun (W : World) (g : Below w.heap.size w W) => Jn.rread_c v s t W (HS.out.later g).1 ht
 have CW := Lib.hid fun (W : World) (g : Below w.heap.size w W) => Jn.write_c v u s d W (HT.out W g) (HS.out.later g) (HU.out.later g) hi
 have CX := Lib.hid fun (W : World) (g : Below w.heap.size w W) => Jn.rwrite_c v u s d W (HS.out.later g).1 (HU.out.later g) hi (fun h => by rw [← Dd.pre_all h]; exact Dd.pre_len h (Nat.le_refl _))
 obtain ⟨g0, hg0⟩ : ∃ g0, g0 = d.gone := ⟨_, rfl⟩
 rw [← hg0] at CW CX ⊢
 unfold Jn.wV at CW CX
 generalize Ty.S (Jn.wS s d) = X at CW CX
 generalize Dd.fitE s d = z at CW CX
 obtain ⟨r, hr⟩ : ∃ r, r = Jn.rd s t.data.toList := ⟨_, rfl⟩
 rw [← hr] at CR CD
 obtain ⟨wb, hwb⟩ : ∃ wb, wb = w.alloc (.cells #[.bool g0, u] 26) := ⟨_, rfl⟩
 have hb : Below w.heap.size w wb := by rw [hwb]; exact (Below.refl _ w).alloc (Nat.le_refl _) _
 have d0 : wb.cell? ⟨w.heap.size, 0, none⟩ = some (.bool g0) := by rw [hwb]; exact Kn.cell_new w _ _ 0 _ rfl
 have d1 : wb.cell? ⟨w.heap.size, 1, none⟩ = some u := by rw [hwb]; exact Kn.cell_new w _ _ 1 _ rfl
 have D0 := Lib.hid fun (W : World) (g : Below wb.heap.size wb W) => (g.cell (World.block_lt_of_cell? wb _ d0)).trans d0
 have D1 := Lib.hid fun (W : World) (g : Below wb.heap.size wb W) => (g.cell (World.block_lt_of_cell? wb _ d1)).trans d1
 have HB := Lib.hid hb
 obtain ⟨ua, uc, rfl, -⟩ := id hu
 generalize d.row.length = rl at CW CX D1 hwb ⊢
 clear hr hu hi hg0 d0 d1 hb HU
 obtain ⟨a, c, rfl, -⟩ := id hs.1
 clear hs ht
 go_enter Tryz.func3, Tryz.ntmps3
 go_wp2_with fail
 rw [← hwb]
 refine (Jn.lives_c wb (HT.out wb HB.out)).mono ?_
 rintro e w1 ⟨rfl, g1⟩
 have HG1 := Lib.hid (HB.out.trans (g1.mono HB.out.size))
 have HW1 := Lib.hid g1
 clear g1 hT hwb
 go_wp2_with fail
 refine (CR.out w1 HG1.out).mono ?_
 rintro e w2 ⟨p, rfl, hp, g2⟩
 have HP := Lib.hid hp
 have HG2 := Lib.hid (HG1.out.trans (g2.mono HG1.out.size))
 have HW2 := Lib.hid (HW1.out.trans (g2.mono HW1.out.size))
 clear g2 hp HW1
 go_wp2_with fail
 refine (CD.out w2 HG2.out).mono ?_
 rintro e w3 ⟨q, Es, rfl, hq, g3⟩
 have HQ := Lib.hid hq.ds
 have HP3 := Lib.hid (HP.out.later g3)
 have HG3 := Lib.hid (HG2.out.trans (g3.mono HG2.out.size))
 have HW3 := Lib.hid (HW2.out.trans (g3.mono HW2.out.size))
 clear g3 hq HP HW2
 have d0 := D0.out w3 HW3.out
 have d1 := D1.out w3 HW3.out
 go_wp2_with fail
 refine (CW.out w3 HG3.out).mono ?_
 rintro e w4 ⟨rfl, g4⟩
 have HQ4 := Lib.hid (HQ.out.later g4)
 have HP4 := Lib.hid (HP3.out.later g4)
 have HG4 := Lib.hid (HG3.out.trans (g4.mono HG3.out.size))
 have HW4 := Lib.hid (HW3.out.trans (g4.mono HW3.out.size))
 clear g4 HQ HP3 d0 d1 HW3
 have d0 := D0.out w4 HW4.out
 have d1 := D1.out w4 HW4.out
 go_wp2_with fail
 refine (CX.out w4 HG4.out).mono ?_
 rintro e w5 ⟨rfl, g5⟩
 have HQ5 := Lib.hid (HQ4.out.later g5)
 have HP5 := Lib.hid (HP4.out.later g5)
 have HG5 := Lib.hid (HG4.out.trans (g5.mono HG4.out.size))
 clear g5 HQ4 HP4 d0 d1 HW4 D0 D1
 have CS := Lib.hid (Bk.rsame_c p q r.2 w5 HP5.out HQ5.out)
 obtain ⟨_, _, rfl, -⟩ := HP5.out
 obtain ⟨_, _, rfl, -⟩ := HQ5.out
 go_wp2_with fail
 refine CS.out.mono ?_
 rintro e w6 ⟨rfl, g6⟩
 have HG6 := Lib.hid (HG5.out.trans (g6.mono HG5.out.size))
 clear g6
 go_wp2
 go_ret
 exact ⟨rfl, HG6.out⟩
end Go.Proofs.YtkhiemkekmdhgaaGreatDoor
