import Derived.Test.YtbelkhkllneifaaGreatDoorWEAP
import Derived.Deep.DeepCutAuto
import Derived.Test.YtbelkhkllneifaaGreatDoorRows
import Derived.Test.YtbelkhkllneifaaGreatDoorLay
import Derived.WalkKit
import Derived.WalkSpells
import Derived.WalkLawsBesides
import Derived.Test.YtbelkhkllneifaaGreatDoorWEAJ
import Derived.Test.YtbelkhkllneifaaGreatDoorWEAM
import Derived.Test.YtbelkhkllneifaaGreatDoorWEAK
import Derived.Test.YtbelkhkllneifaaGreatDoorWEAL
import Derived.Deep.OwnRows
namespace Go.Proofs.YtbelkhkllneifaaGreatDoor
section
open Go.RowKit
theorem Zn.boxedZ (w : World) (a : Zn.As) (z : Zn.Zo) (t : TypeId) : Zn.ABlk ((w.alloc (.cells #[.int .i64 a.op, .int .i64 a.col, .bool a.v.null, .int .i64 a.v.n, .string a.v.s] t)).alloc (.cells (Zn.cs z) 68)) w.heap.size a ∧
 Zn.Blk ((w.alloc (.cells #[.int .i64 a.op, .int .i64 a.col, .bool a.v.null, .int .i64 a.v.n, .string a.v.s] t)).alloc (.cells (Zn.cs z) 68)) (w.heap.size + 1) z ∧
 Below w.heap.size w ((w.alloc (.cells #[.int .i64 a.op, .int .i64 a.col, .bool a.v.null, .int .i64 a.v.n, .string a.v.s] t)).alloc (.cells (Zn.cs z) 68)) := by
 refine ⟨(Zn.ABlk.new w a t).kept ((Below.refl _ _).alloc (Nat.le_refl _) _), ?_, ((Below.refl _ w).alloc (Nat.le_refl _) _).alloc (by simp) _⟩
 have := Zn.Blk.new (w.alloc (.cells #[.int .i64 a.op, .int .i64 a.col, .bool a.v.null, .int .i64 a.v.n, .string a.v.s] t)) z
 rwa [World.size_alloc] at this
theorem Zn.below_alloc {w w' : World} (h : Below w.heap.size w w') (o : Obj) : Below w.heap.size w (w'.alloc o) := h.alloc h.size o
theorem Zn.may1 (col : Int) (v l h : Kn.V) (zn : Bool) (hv : v.null = false) : Zn.may ⟨1, col, v⟩ ⟨zn, true, l, h⟩ = (decide (Kn.cmp (Zn.bare l) v ≤ 0) && decide (0 ≤ Kn.cmp (Zn.bare h) v)) := by
 unfold Zn.may
 rw [if_neg (show ¬ (1 : Int) = 0 by decide), if_neg (show ¬ (1 : Int) = 4 by decide), if_neg (show ¬ (1 : Int) = 5 by decide), if_neg (by simp [hv]), if_pos rfl]
theorem Zn.may2 (col : Int) (v l h : Kn.V) (zn : Bool) (hv : v.null = false) : Zn.may ⟨2, col, v⟩ ⟨zn, true, l, h⟩ = decide (Kn.cmp (Zn.bare l) v < 0) := by
 unfold Zn.may
 rw [if_neg (show ¬ (2 : Int) = 0 by decide), if_neg (show ¬ (2 : Int) = 4 by decide), if_neg (show ¬ (2 : Int) = 5 by decide), if_neg (by simp [hv]), if_neg (show ¬ (2 : Int) = 1 by decide), if_pos rfl]
theorem Zn.may3 (col : Int) (v l h : Kn.V) (zn : Bool) (hv : v.null = false) : Zn.may ⟨3, col, v⟩ ⟨zn, true, l, h⟩ = decide (0 ≤ Kn.cmp (Zn.bare h) v) := by
 unfold Zn.may
 rw [if_neg (show ¬ (3 : Int) = 0 by decide), if_neg (show ¬ (3 : Int) = 4 by decide), if_neg (show ¬ (3 : Int) = 5 by decide), if_neg (by simp [hv]), if_neg (show ¬ (3 : Int) = 1 by decide), if_neg (show ¬ (3 : Int) = 2 by decide), if_pos rfl]
set_option maxHeartbeats 1000000 in
set_option maxRecDepth 100000 in
theorem Zn.may_plain (a : Zn.As) (z : Zn.Zo) (hp : a.op = 0 ∨ a.op = 4 ∨ a.op = 5 ∨ z.values = false ∨ a.v.null = true) (w : World) : Calls Tryz.prog 109 #[a.val, z.val] w fun e w' => e = .returned (.bool (Zn.may a z)) ∧ Below w.heap.size w w' := by
 obtain ⟨⟨a0, a1, a2, a3, a4⟩, hZ, hb⟩ := Zn.boxedZ w a z 54
 obtain ⟨x0, x1, x2, x3, x4, x5, x6, x7⟩ := hZ.cells
 clear hZ
 obtain ⟨op, col, ⟨an, ai, sa⟩⟩ := a
 obtain ⟨zn, zw, ⟨ln, li, ls⟩, ⟨hn, hi, hs⟩⟩ := z
 simp only [Zn.cs] at a0 a1 a2 a3 a4 x0 x1 x2 x3 x4 x5 x6 x7 hb hp
 have HB := Lib.hid hb
 have HP := Lib.hid hp
 clear hb hp
 generalize hM : Zn.may ⟨op, col, ⟨an, ai, sa⟩⟩ ⟨zn, zw, ⟨ln, li, ls⟩, ⟨hn, hi, hs⟩⟩ = M
 have HM := Lib.hid hM
 clear hM
 by_cases h0 : op = 0
 ·subst h0
  obtain rfl : (zn || zw) = M := by rw [← HM.out]; simp [Zn.may]
  clear HM HP
  cases zn
  all_goals
   go_enter Tryz.func109, Tryz.ntmps109
   go_wp2
   go_ret
   exact ⟨rfl, HB.out⟩
 have b0 : (op == 0) = false := by rw [beq_eq_false_iff_ne]; exact h0
 by_cases h4 : op = 4
 ·subst h4
  obtain rfl : zn = M := by rw [← HM.out]; simp [Zn.may]
  clear HM HP h0 b0
  go_enter Tryz.func109, Tryz.ntmps109
  go_wp2
  go_ret
  exact ⟨rfl, HB.out⟩
 have b4 : (op == 4) = false := by rw [beq_eq_false_iff_ne]; exact h4
 by_cases h5 : op = 5
 ·subst h5
  obtain rfl : zw = M := by rw [← HM.out]; simp [Zn.may]
  clear HM HP h0 b0 h4 b4
  go_enter Tryz.func109, Tryz.ntmps109
  go_wp2
  go_ret
  exact ⟨rfl, HB.out⟩
 have b5 : (op == 5) = false := by rw [beq_eq_false_iff_ne]; exact h5
 have hz : zw = false ∨ an = true := by
  rcases HP.out with h | h | h | h | h
  ·exact absurd h h0
  ·exact absurd h h4
  ·exact absurd h h5
  ·exact .inl h
  ·exact .inr h
 obtain rfl : M = false := by
  rw [← HM.out]
  rcases hz with h | h <;> simp [Zn.may, h0, h4, h5, h]
 clear HM HP h0 h4 h5
 cases zw
 ·go_enter Tryz.func109, Tryz.ntmps109
  go_wp2
  go_ret
  exact ⟨rfl, HB.out⟩
 ·obtain rfl : an = true := by rcases hz with h | h; cases h; exact h
  clear hz
  go_enter Tryz.func109, Tryz.ntmps109
  go_wp2
  go_ret
  exact ⟨rfl, HB.out⟩
set_option maxHeartbeats 4000000 in
set_option maxRecDepth 100000 in
theorem Zn.may_c (a : Zn.As) (z : Zn.Zo) (w : World) : Calls Tryz.prog 109 #[a.val, z.val] w fun e w' => e = .returned (.bool (Zn.may a z)) ∧ Below w.heap.size w w' := by
 by_cases hp : a.op = 0 ∨ a.op = 4 ∨ a.op = 5 ∨ z.values = false ∨ a.v.null = true
 ·exact Zn.may_plain a z hp w
 obtain ⟨⟨a0, a1, a2, a3, a4⟩, hZ, hb⟩ := Zn.boxedZ w a z 54
 obtain ⟨x0, x1, x2, x3, x4, x5, x6, x7⟩ := hZ.cells
 have CL := Kn.compare_c (Zn.bare z.lo) a.v
 have CU := Kn.compare_c (Zn.bare z.hi) a.v
 have C1 := Zn.filled_x z.lo
 have C2 := Zn.filled_x z.hi
 have hl1 : w.heap.size < ((w.alloc (.cells #[.int .i64 a.op, .int .i64 a.col, .bool a.v.null, .int .i64 a.v.n, .string a.v.s] 54)).alloc (.cells (Zn.cs z) 68)).heap.size := by simp; omega
 have hl2 : w.heap.size + 1 < ((w.alloc (.cells #[.int .i64 a.op, .int .i64 a.col, .bool a.v.null, .int .i64 a.v.n, .string a.v.s] 54)).alloc (.cells (Zn.cs z) 68)).heap.size := by simp
 clear hZ
 obtain ⟨op, col, ⟨an, ai, sa⟩⟩ := a
 obtain ⟨zn, zw, ⟨ln, li, ls⟩, ⟨hn, hi, hs⟩⟩ := z
 unfold Kn.V.val at C1 C2 CL CU
 simp only [Zn.bare, Zn.cs] at a0 a1 a2 a3 a4 x0 x1 x2 x3 x4 x5 x6 x7 hb C1 C2 CL CU hl1 hl2 hp
 have h0 : op ≠ 0 := fun h => hp (.inl h)
 have h4 : op ≠ 4 := fun h => hp (.inr (.inl h))
 have h5 : op ≠ 5 := fun h => hp (.inr (.inr (.inl h)))
 obtain rfl : zw = true := by
  cases zw
  ·exact absurd (.inr (.inr (.inr (.inl rfl)))) hp
  ·rfl
 obtain rfl : an = false := by
  cases an
  ·rfl
  ·exact absurd (.inr (.inr (.inr (.inr rfl)))) hp
 have b0 : (op == 0) = false := by rw [beq_eq_false_iff_ne]; exact h0
 have b4 : (op == 4) = false := by rw [beq_eq_false_iff_ne]; exact h4
 have b5 : (op == 5) = false := by rw [beq_eq_false_iff_ne]; exact h5
 have HB := Lib.hid hb
 have HCL : Hid (∀ w, _) := Lib.hid CL
 have HCU : Hid (∀ w, _) := Lib.hid CU
 have HN := Lib.hid (And.intro h0 (And.intro h4 h5))
 clear hb hp h0 h4 h5 CL CU
 generalize hM : Zn.may ⟨op, col, ⟨false, ai, sa⟩⟩ ⟨zn, true, ⟨ln, li, ls⟩, ⟨hn, hi, hs⟩⟩ = M
 have HM := Lib.hid hM
 clear hM
 go_enter Tryz.func109, Tryz.ntmps109
 go_upto_region 10 with (fail)
 generalize (World.alloc _ _).alloc _ = wo at HB a0 a1 a2 a3 a4 x0 x1 x2 x3 x4 x5 x6 x7 hl1 hl2 ⊢
 have HS : Hid (∀ W, Below wo.heap.size wo W → W.cell? ⟨w.heap.size + 1, 2, none⟩ = some (.bool ln) ∧ W.cell? ⟨w.heap.size + 1, 3, none⟩ = some (.int .i64 li) ∧ W.cell? ⟨w.heap.size + 1, 4, none⟩ = some (.string ls) ∧ W.cell? ⟨w.heap.size + 1, 5, none⟩ = some (.bool hn) ∧ W.cell? ⟨w.heap.size + 1, 6, none⟩ = some (.int .i64 hi) ∧ W.cell? ⟨w.heap.size + 1, 7, none⟩ = some (.string hs)) := Lib.hid fun W g =>
  ⟨(g.cell (p := ⟨w.heap.size + 1, 2, none⟩) hl2).trans x2, (g.cell (p := ⟨w.heap.size + 1, 3, none⟩) hl2).trans x3, (g.cell (p := ⟨w.heap.size + 1, 4, none⟩) hl2).trans x4, (g.cell (p := ⟨w.heap.size + 1, 5, none⟩) hl2).trans x5, (g.cell (p := ⟨w.heap.size + 1, 6, none⟩) hl2).trans x6, (g.cell (p := ⟨w.heap.size + 1, 7, none⟩) hl2).trans x7⟩
 have HA : Hid (∀ W, Below wo.heap.size wo W → W.cell? ⟨w.heap.size, 0, none⟩ = some (.int .i64 op) ∧ W.cell? ⟨w.heap.size, 2, none⟩ = some (.bool false) ∧ W.cell? ⟨w.heap.size, 3, none⟩ = some (.int .i64 ai) ∧ W.cell? ⟨w.heap.size, 4, none⟩ = some (.string sa)) := Lib.hid fun W g =>
  ⟨(g.cell (p := ⟨w.heap.size, 0, none⟩) hl1).trans a0, (g.cell (p := ⟨w.heap.size, 2, none⟩) hl1).trans a2, (g.cell (p := ⟨w.heap.size, 3, none⟩) hl1).trans a3, (g.cell (p := ⟨w.heap.size, 4, none⟩) hl1).trans a4⟩
 have HO := Lib.hid (Below.refl wo.heap.size wo)
 have HD : Hid (Below wo.heap.size wo wo.drew) := Lib.hid (Kn.drewN_below wo 1)
 clear a0 a1 a2 a3 a4 x0 x1 x2 x3 x4 x5 x6 x7 hl1 hl2
 go_cut [5, 6] (fun s5 s6 wx => ∃ p q : Nat, s5 = .pointer (some ⟨p, 0, none⟩) ∧ s6 = .pointer (some ⟨q, 0, none⟩) ∧ Below wo.heap.size wo wx ∧ Kn.At wx p 0 ⟨false, li, ls⟩ ∧ Kn.At wx q 0 ⟨false, hi, hs⟩)
 case first =>
  go_region_held3 (fun W => W.cell? ⟨w.heap.size + 1, 2, none⟩ = some (.bool ln) ∧ W.cell? ⟨w.heap.size + 1, 3, none⟩ = some (.int .i64 li) ∧ W.cell? ⟨w.heap.size + 1, 4, none⟩ = some (.string ls) ∧ W.cell? ⟨w.heap.size + 1, 5, none⟩ = some (.bool hn) ∧ W.cell? ⟨w.heap.size + 1, 6, none⟩ = some (.int .i64 hi) ∧ W.cell? ⟨w.heap.size + 1, 7, none⟩ = some (.string hs))
   ((refine HS.out _ ?_; repeat' (first | exact HD.out | exact HO.out | refine Below.drew ?_ | refine Zn.below_alloc ?_ _ | (refine Zn.below_set ?_ ?_ _ _))))
   (first
    | (go_at_call 135; (with_reducible refine (C1 _).mono ?_); rintro e w1 ⟨rfl, rfl⟩)
    | (go_at_call 135; (with_reducible refine (C2 _).mono ?_); rintro e w2 ⟨rfl, rfl⟩))
  all_goals (go_wp2_with fail; go_meet; exact ⟨_, _, rfl, rfl, by repeat' (first | exact HD.out | exact HO.out | refine Below.drew ?_ | refine Zn.below_alloc ?_ _), ⟨by go_simp, by go_simp, by go_simp⟩, ⟨by go_simp, by go_simp, by go_simp⟩⟩)
 case rest =>
  obtain ⟨p, q, rfl, rfl, hE, hP, hQ⟩ := hcut
  obtain ⟨c0, c2, c3, c4⟩ := HA.out _ hE
  obtain ⟨p0, p1, p2⟩ := hP
  have HE := Lib.hid (HB.out.trans (hE.mono HB.out.size))
  have HQ := Lib.hid hQ
  have HF := Lib.hid hE
  simp only at p0 p1 p2
  clear hQ hE C1 C2 HS HO HD
  generalize hX : Kn.cmp ⟨false, li, ls⟩ ⟨false, ai, sa⟩ = X at HCL
  generalize hY : Kn.cmp ⟨false, hi, hs⟩ ⟨false, ai, sa⟩ = Y at HCU
  have HX := Lib.hid hX
  have HY := Lib.hid hY
  clear hX hY
  rcases Zn.ops op with rfl | rfl | rfl | rfl | rfl | rfl | ⟨n0, n1, n2, n3, n4, n5, m0, m1, m2, m3, m4, m5⟩
  ·exact absurd rfl HN.out.1
  ·exact absurd rfl HN.out.2.1
  ·exact absurd rfl HN.out.2.2
  ·have HM2 : Hid ((decide (X ≤ 0) && decide (0 ≤ Y)) = M) := Lib.hid (by rw [← HM.out, ← HX.out, ← HY.out, Zn.may1 _ _ _ _ _ rfl]; rfl)
   clear HM b0 b4 b5 HX HY
   by_cases hX : X ≤ 0
   ·obtain rfl : decide (0 ≤ Y) = M := by rw [← HM2.out, decide_eq_true hX]; rfl
    clear HM2
    go_wp2_with fail
    with_reducible refine (HCL.out _).mono ?_
    rintro e w1 ⟨rfl, g1⟩
    obtain ⟨q0, q1, q2⟩ := HQ.out.later g1
    obtain ⟨d0, d2, d3, d4⟩ := HA.out _ (HF.out.trans (g1.mono HF.out.size))
    simp only at q0 q1 q2
    have HE1 := Lib.hid (HE.out.trans (g1.mono HE.out.size))
    clear g1
    go_wp2_with fail
    with_reducible refine (HCU.out _).mono ?_
    rintro e w2 ⟨rfl, g2⟩
    go_wp2
    go_ret
    exact ⟨rfl, HE1.out.trans (g2.mono HE1.out.size)⟩
   ·obtain rfl : false = M := by rw [← HM2.out, decide_eq_false hX]; rfl
    clear HM2
    go_wp2_with fail
    with_reducible refine (HCL.out _).mono ?_
    rintro e w1 ⟨rfl, g1⟩
    go_wp2
    go_ret
    exact ⟨rfl, HE.out.trans (g1.mono HE.out.size)⟩
  ·obtain rfl : decide (X < 0) = M := by rw [← HM.out, ← HX.out, Zn.may2 _ _ _ _ _ rfl]; rfl
   clear HM b0 b4 b5 HX HY
   go_wp2_with fail
   with_reducible refine (HCL.out _).mono ?_
   rintro e w1 ⟨rfl, g1⟩
   go_wp2
   go_ret
   exact ⟨rfl, HE.out.trans (g1.mono HE.out.size)⟩
  ·obtain rfl : decide (0 ≤ Y) = M := by rw [← HM.out, ← HY.out, Zn.may3 _ _ _ _ _ rfl]; rfl
   obtain ⟨q0, q1, q2⟩ := HQ.out
   simp only at q0 q1 q2
   clear HM b0 b4 b5 HX HY
   go_wp2_with fail
   with_reducible refine (HCU.out _).mono ?_
   rintro e w1 ⟨rfl, g1⟩
   go_wp2
   go_ret
   exact ⟨rfl, HE.out.trans (g1.mono HE.out.size)⟩
  ·obtain rfl : false = M := by rw [← HM.out]; simp [Zn.may, m0, m1, m2, m3, m4, m5]
   clear HM HX HY m0 m1 m2 m3 m4 m5
   go_wp2
   go_ret
   exact ⟨rfl, HE.out⟩
end
section
open Go.RowKit Go.Shelf
set_option maxRecDepth 100000 in
theorem Tx.clone_c (s : ByteArray) (w : World) (hs : s.size ≤ 140737488355328) : Calls Tryz.prog 112 #[.string s] w fun e w' => e = .returned (.string s) ∧ Below w.heap.size w w' := by
 have cc := Any.stringslite_Clone Tryz.cloneL s w (by omega)
 go_enter Tryz.func112, Tryz.ntmps112
 go_wp2_with fail
 refine Calls.mono cc ?_
 rintro e w1 ⟨rfl, hb⟩
 go_wp2
 go_ret
 exact ⟨rfl, hb⟩
end
section
open Go.RowKit
theorem Zn.grow {w w' : World} (h : Below w.heap.size w w') {w'' : World} (g : Below w'.heap.size w' w'') : Below w.heap.size w w'' := h.trans (g.mono h.size)
structure Zn.St (w : World) (z : Zn.Zo) (W : World) : Prop where
 res : Zn.Blk W w.heap.size Zn.z0
 blk : Zn.Blk W (w.heap.size + 1) z
 bel : Below w.heap.size w W
theorem Zn.St.start (w : World) : Zn.St w Zn.z0 ((w.alloc (.cells (Zn.cs Zn.z0) 68)).alloc (.cells (Zn.cs Zn.z0) 68)) := by
 refine ⟨(Zn.Blk.new w _).alloc _, ?_, ((Below.refl _ w).alloc (Nat.le_refl _) _).alloc (by simp) _⟩
 have := Zn.Blk.new (w.alloc (.cells (Zn.cs Zn.z0) 68)) Zn.z0
 rwa [World.size_alloc] at this
theorem Zn.St.kept {w W W' : World} {z : Zn.Zo} (h : Zn.St w z W) (g : Below W.heap.size W W') : Zn.St w z W' := ⟨h.res.kept g, h.blk.kept g, Zn.grow h.bel g⟩
theorem Zn.St.set0 {w W : World} {z : Zn.Zo} (h : Zn.St w z W) (b : Bool) : Zn.St w ⟨b, z.values, z.lo, z.hi⟩ (W.setCell ⟨w.heap.size + 1, 0, none⟩ (.bool b)) :=
 ⟨h.res.other (by omega) _ _, h.blk.set0 b, Zn.below_set h.bel (by omega) _ _⟩
theorem Zn.St.set1 {w W : World} {z : Zn.Zo} (h : Zn.St w z W) (b : Bool) : Zn.St w ⟨z.nulls, b, z.lo, z.hi⟩ (W.setCell ⟨w.heap.size + 1, 1, none⟩ (.bool b)) :=
 ⟨h.res.other (by omega) _ _, h.blk.set1 b, Zn.below_set h.bel (by omega) _ _⟩
theorem Zn.St.s4 {w W : World} {z : Zn.Zo} (h : Zn.St w z W) : Zn.St w z (W.setCell ⟨w.heap.size + 1, 4, none⟩ (.string z.lo.s)) :=
 ⟨h.res.other (by omega) _ _, h.blk.set4 z.lo.s, Zn.below_set h.bel (by omega) _ _⟩
theorem Zn.St.s7 {w W : World} {z : Zn.Zo} (h : Zn.St w z W) : Zn.St w z (W.setCell ⟨w.heap.size + 1, 7, none⟩ (.string z.hi.s)) :=
 ⟨h.res.other (by omega) _ _, h.blk.set7 z.hi.s, Zn.below_set h.bel (by omega) _ _⟩
theorem Zn.St.setLo {w W : World} {z : Zn.Zo} (h : Zn.St w z W) (v : Kn.V) : Zn.St w ⟨z.nulls, z.values, v, z.hi⟩ (((W.setCell ⟨w.heap.size + 1, 2, none⟩ (.bool v.null)).setCell ⟨w.heap.size + 1, 3, none⟩ (.int .i64 v.n)).setCell ⟨w.heap.size + 1, 4, none⟩ (.string v.s)) :=
 ⟨((h.res.other (by omega) _ _).other (by omega) _ _).other (by omega) _ _, h.blk.setLo v, Zn.below_set3 h.bel (by omega) _ _ _ _ _ _⟩
theorem Zn.St.setHi {w W : World} {z : Zn.Zo} (h : Zn.St w z W) (v : Kn.V) : Zn.St w ⟨z.nulls, z.values, z.lo, v⟩ (((W.setCell ⟨w.heap.size + 1, 5, none⟩ (.bool v.null)).setCell ⟨w.heap.size + 1, 6, none⟩ (.int .i64 v.n)).setCell ⟨w.heap.size + 1, 7, none⟩ (.string v.s)) :=
 ⟨((h.res.other (by omega) _ _).other (by omega) _ _).other (by omega) _ _, h.blk.setHi v, Zn.below_set3 h.bel (by omega) _ _ _ _ _ _⟩
theorem Zn.At_set {W : World} {b q o : Nat} {v : Kn.V} (h : Kn.At W b o v) (hne : b ≠ q) (i : Nat) (u : Value) : Kn.At (W.setCell ⟨q, i, none⟩ u) b o v := by
 have e : (W.setCell ⟨q, i, none⟩ u).heap[b]? = W.heap[b]? := heap_setCell_other W ⟨q, i, none⟩ b u hne
 exact ⟨(World.cell?_of_block e).trans h.c0, (World.cell?_of_block e).trans h.c1, (World.cell?_of_block e).trans h.c2⟩
theorem Zn.At_set3 {W : World} {b q o : Nat} {v : Kn.V} (h : Kn.At W b o v) (hne : b ≠ q) (i j k : Nat) (x y z : Value) : Kn.At (((W.setCell ⟨q, i, none⟩ x).setCell ⟨q, j, none⟩ y).setCell ⟨q, k, none⟩ z) b o v :=
 Zn.At_set (Zn.At_set (Zn.At_set h hne i x) hne j y) hne k z
theorem Zn.add_null {z : Zn.Zo} {v : Kn.V} (h : v.null = true) : Zn.add z v = ⟨true, z.values, z.lo, z.hi⟩ := by unfold Zn.add; rw [if_pos h]
theorem Zn.add_first {z : Zn.Zo} {v : Kn.V} (h : v.null = false) (hz : z.values = false) : Zn.add z v = ⟨z.nulls, true, v, v⟩ := by unfold Zn.add; simp [h, hz]
theorem Zn.add_more {z : Zn.Zo} {v : Kn.V} (h : v.null = false) (hz : z.values = true) : Zn.add z v = ⟨z.nulls, true, if Kn.cmp v z.lo < 0 then v else z.lo, if Kn.cmp v z.hi > 0 then v else z.hi⟩ := by unfold Zn.add; simp [h, hz]
theorem Zn.of_size {l : List Kn.V} (h : ∀ x ∈ l, Kn.Z x) : (Zn.of l).lo.s.size ≤ 140737488355328 ∧ (Zn.of l).hi.s.size ≤ 140737488355328 := by
 have hz : ∀ v : Kn.V, v = Zn.zv ∨ v ∈ l → v.s.size ≤ 140737488355328 := fun v hv => by
  rcases hv with rfl | hv
  ·decide
  ·have := h v hv
   unfold Kn.Z at this
   omega
 exact ⟨hz _ (Zn.of_mem l).1, hz _ (Zn.of_mem l).2⟩
set_option maxHeartbeats 4000000 in
set_option maxRecDepth 100000 in
theorem Zn.of_c (v : Value) (l : List Kn.V) (w : World) (hv : Kn.Vals w v l) (hz : ∀ x ∈ l, Kn.Z x) : Calls Tryz.prog 116 #[v] w fun e w' => e = .returned (Zn.of l).val ∧ Below w.heap.size w w' := by
 obtain ⟨a, c, rfl, h⟩ := hv
 have HH := Lib.hid h
 have HZ := Lib.hid hz
 have CC := Lib.hid Kn.compare_c
 have HST := Lib.hid (Zn.St.start w)
 clear h hz
 go_enter Tryz.func116, Tryz.ntmps116
 go_wp2_with fail
 go_loopw [8] (fun i wr => ∃ k : Nat, k ≤ l.length ∧ i = .int .i64 k ∧ Zn.St w (Zn.of (l.take k)) wr) (fun i _ => l.length - (intOf i).toNat)
 case atStart => exact ⟨0, Nat.zero_le _, rfl, HST.out⟩
 case round =>
  obtain ⟨k, hk, rfl, hst⟩ := hrel
  by_cases hkl : k < l.length
  ·rcases HH.out with rfl | ⟨b, o, rfl, hlt, hm, hc⟩
   ·simp at hkl
   ·have hx := List.getElem?_eq_getElem hkl
    generalize l[k] = x at hx
    have HA := Lib.hid (Zn.of_take hx)
    generalize Zn.of (l.take k) = z at hst HA
    have hx1 := (hc k x hx).later hst.bel
    obtain ⟨e0, e1, e2⟩ := hx1
    have dk : (k : Int) < (l.length : Int) := by omega
    have dk0 : (0 : Int) ≤ (k : Int) := by omega
    have HK := Lib.hid hkl
    have HS := Lib.hid hst
    have hsz : wr.heap.size < (wr.alloc (.cells #[.bool x.null, .int .i64 x.n, .string x.s] 33)).heap.size := by simp
    have HST2 := Lib.hid (hst.kept ((Below.refl _ wr).alloc (Nat.le_refl _) (.cells #[.bool x.null, .int .i64 x.n, .string x.s] 33)))
    have HX := Lib.hid (Kn.At.new wr x 33)
    have HNE : Hid (wr.heap.size ≠ w.heap.size + 1 ∧ wr.heap.size ≠ w.heap.size) := Lib.hid (by have := hst.blk.lt; omega)
    clear hx hc hst hkl hk hsz
    obtain ⟨xn, xi, xs⟩ := x
    obtain ⟨zn, zw, ⟨ln, li, ls⟩, ⟨hn, hi, hs⟩⟩ := z
    simp only at e0 e1 e2 HST2 HX
    go_upto_region 5 with (fail)
    generalize wr.alloc (.cells #[.bool xn, .int .i64 xi, .string xs] 33) = wb at HST2 HX ⊢
    clear e0 e1 e2
    cases xn
    ·cases zw
     ·have HQ := HST2
      obtain ⟨x0, x1, x2⟩ := HX.out
      obtain ⟨z0, z1, z2, z3, z4, z5, z6, z7⟩ := HST2.out.blk.cells
      obtain ⟨f0, f1, f2, f3, f4, f5, f6, f7⟩ := HST2.out.blk.frozens
      simp only at x0 x1 x2 z0 z1 z2 z3 z4 z5 z6 z7
      go_upto_region 9 with (fail)
      have HST5 := Lib.hid (HST2.out.setLo ⟨false, xi, xs⟩)
      have HX5 := Lib.hid (Zn.At_set3 (q := w.heap.size + 1) HX.out HNE.out.1 2 3 4 (.bool false) (.int .i64 xi) (.string xs))
      clear x0 x1 x2 z0 z1 z2 z3 z4 z5 z6 z7 f0 f1 f2 f3 f4 f5 f6 f7
      simp only at HST5
      generalize ((wb.setCell ⟨w.heap.size + 1, 2, none⟩ (.bool false)).setCell ⟨w.heap.size + 1, 3, none⟩ (.int .i64 xi)).setCell ⟨w.heap.size + 1, 4, none⟩ (.string xs) = w2 at HST5 HX5 ⊢
      obtain ⟨x0, x1, x2⟩ := HX5.out
      obtain ⟨z0, z1, z2, z3, z4, z5, z6, z7⟩ := HST5.out.blk.cells
      obtain ⟨f0, f1, f2, f3, f4, f5, f6, f7⟩ := HST5.out.blk.frozens
      simp only at x0 x1 x2 z0 z1 z2 z3 z4 z5 z6 z7
      go_wp2
      go_roundw
      case rel => exact ⟨k + 1, HK.out, by simp, by rw [HA.out]; rw [Zn.add_first rfl rfl]; exact (HST5.out.setHi ⟨false, xi, xs⟩).set1 true⟩
      case measure => (have := HK.out; simp [intOf]; omega)
     ·have cL := CC.out ⟨false, xi, xs⟩ ⟨ln, li, ls⟩
      have cU := CC.out ⟨false, xi, xs⟩ ⟨hn, hi, hs⟩
      unfold Kn.V.val at cL cU
      simp only at cL cU
      have HCL : Hid (∀ w, _) := Lib.hid cL
      have HCU : Hid (∀ w, _) := Lib.hid cU
      clear cL cU
      generalize hX : Kn.cmp ⟨false, xi, xs⟩ ⟨ln, li, ls⟩ = X at HCL
      generalize hY : Kn.cmp ⟨false, xi, xs⟩ ⟨hn, hi, hs⟩ = Y at HCU
      have HXE := Lib.hid hX
      have HYE := Lib.hid hY
      clear hX hY
      obtain ⟨x0, x1, x2⟩ := HX.out
      obtain ⟨z0, z1, z2, z3, z4, z5, z6, z7⟩ := HST2.out.blk.cells
      obtain ⟨f0, f1, f2, f3, f4, f5, f6, f7⟩ := HST2.out.blk.frozens
      simp only at x0 x1 x2 z0 z1 z2 z3 z4 z5 z6 z7
      go_wp2_with fail
      with_reducible refine (HCL.out _).mono ?_
      rintro e w1 ⟨rfl, g1⟩
      have HST3 := Lib.hid (HST2.out.kept g1)
      have HX3 := Lib.hid (HX.out.later g1)
      clear x0 x1 x2 z0 z1 z2 z3 z4 z5 z6 z7 f0 f1 f2 f3 f4 f5 f6 f7 g1
      obtain ⟨x0, x1, x2⟩ := HX3.out
      obtain ⟨z0, z1, z2, z3, z4, z5, z6, z7⟩ := HST3.out.blk.cells
      obtain ⟨f0, f1, f2, f3, f4, f5, f6, f7⟩ := HST3.out.blk.frozens
      simp only at x0 x1 x2 z0 z1 z2 z3 z4 z5 z6 z7
      by_cases hX : X < 0
      ·have HXX := Lib.hid hX
       go_upto_region 9 with (fail)
       have HST5 := Lib.hid (HST3.out.setLo ⟨false, xi, xs⟩)
       have HX5 := Lib.hid (Zn.At_set3 (q := w.heap.size + 1) HX3.out HNE.out.1 2 3 4 (.bool false) (.int .i64 xi) (.string xs))
       clear x0 x1 x2 z0 z1 z2 z3 z4 z5 z6 z7 f0 f1 f2 f3 f4 f5 f6 f7
       simp only at HST5
       generalize ((w1.setCell ⟨w.heap.size + 1, 2, none⟩ (.bool false)).setCell ⟨w.heap.size + 1, 3, none⟩ (.int .i64 xi)).setCell ⟨w.heap.size + 1, 4, none⟩ (.string xs) = w2 at HST5 HX5 ⊢
       obtain ⟨x0, x1, x2⟩ := HX5.out
       obtain ⟨z0, z1, z2, z3, z4, z5, z6, z7⟩ := HST5.out.blk.cells
       obtain ⟨f0, f1, f2, f3, f4, f5, f6, f7⟩ := HST5.out.blk.frozens
       simp only at x0 x1 x2 z0 z1 z2 z3 z4 z5 z6 z7
       go_wp2_with fail
       with_reducible refine (HCU.out _).mono ?_
       rintro e w3 ⟨rfl, g3⟩
       have HST4 := Lib.hid (HST5.out.kept g3)
       have HX4 := Lib.hid (HX5.out.later g3)
       clear x0 x1 x2 z0 z1 z2 z3 z4 z5 z6 z7 f0 f1 f2 f3 f4 f5 f6 f7 g3
       obtain ⟨x0, x1, x2⟩ := HX4.out
       obtain ⟨z0, z1, z2, z3, z4, z5, z6, z7⟩ := HST4.out.blk.cells
       obtain ⟨f0, f1, f2, f3, f4, f5, f6, f7⟩ := HST4.out.blk.frozens
       simp only at x0 x1 x2 z0 z1 z2 z3 z4 z5 z6 z7
       by_cases hY : Y > 0
       ·have HYY := Lib.hid hY
        go_wp2
        go_roundw
        case rel => exact ⟨k + 1, HK.out, by simp, by rw [HA.out]; rw [Zn.add_more rfl rfl, show (if Kn.cmp ⟨false, xi, xs⟩ ⟨ln, li, ls⟩ < 0 then (⟨false, xi, xs⟩ : Kn.V) else ⟨ln, li, ls⟩) = ⟨false, xi, xs⟩ from if_pos (by rw [HXE.out]; have := HXX.out; omega), if_pos (show Kn.cmp ⟨false, xi, xs⟩ ⟨hn, hi, hs⟩ > 0 by rw [HYE.out]; have := HYY.out; omega)]; exact (HST4.out.setHi ⟨false, xi, xs⟩).set1 true⟩
        case measure => (have := HK.out; simp [intOf]; omega)
       ·have HYY := Lib.hid hY
        go_wp2
        go_roundw
        case rel => exact ⟨k + 1, HK.out, by simp, by rw [HA.out]; rw [Zn.add_more rfl rfl, show (if Kn.cmp ⟨false, xi, xs⟩ ⟨ln, li, ls⟩ < 0 then (⟨false, xi, xs⟩ : Kn.V) else ⟨ln, li, ls⟩) = ⟨false, xi, xs⟩ from if_pos (by rw [HXE.out]; have := HXX.out; omega), if_neg (show ¬ Kn.cmp ⟨false, xi, xs⟩ ⟨hn, hi, hs⟩ > 0 by rw [HYE.out]; have := HYY.out; omega)]; exact HST4.out.set1 true⟩
        case measure => (have := HK.out; simp [intOf]; omega)
      ·have HXX := Lib.hid hX
       go_upto_region 9 with (fail)
       clear x0 x1 x2 z0 z1 z2 z3 z4 z5 z6 z7 f0 f1 f2 f3 f4 f5 f6 f7
       obtain ⟨x0, x1, x2⟩ := HX3.out
       obtain ⟨z0, z1, z2, z3, z4, z5, z6, z7⟩ := HST3.out.blk.cells
       obtain ⟨f0, f1, f2, f3, f4, f5, f6, f7⟩ := HST3.out.blk.frozens
       simp only at x0 x1 x2 z0 z1 z2 z3 z4 z5 z6 z7
       go_wp2_with fail
       with_reducible refine (HCU.out _).mono ?_
       rintro e w3 ⟨rfl, g3⟩
       have HST4 := Lib.hid (HST3.out.kept g3)
       have HX4 := Lib.hid (HX3.out.later g3)
       clear x0 x1 x2 z0 z1 z2 z3 z4 z5 z6 z7 f0 f1 f2 f3 f4 f5 f6 f7 g3
       obtain ⟨x0, x1, x2⟩ := HX4.out
       obtain ⟨z0, z1, z2, z3, z4, z5, z6, z7⟩ := HST4.out.blk.cells
       obtain ⟨f0, f1, f2, f3, f4, f5, f6, f7⟩ := HST4.out.blk.frozens
       simp only at x0 x1 x2 z0 z1 z2 z3 z4 z5 z6 z7
       by_cases hY : Y > 0
       ·have HYY := Lib.hid hY
        go_wp2
        go_roundw
        case rel => exact ⟨k + 1, HK.out, by simp, by rw [HA.out]; rw [Zn.add_more rfl rfl, show (if Kn.cmp ⟨false, xi, xs⟩ ⟨ln, li, ls⟩ < 0 then (⟨false, xi, xs⟩ : Kn.V) else ⟨ln, li, ls⟩) = ⟨ln, li, ls⟩ from if_neg (by rw [HXE.out]; have := HXX.out; omega), if_pos (show Kn.cmp ⟨false, xi, xs⟩ ⟨hn, hi, hs⟩ > 0 by rw [HYE.out]; have := HYY.out; omega)]; exact (HST4.out.setHi ⟨false, xi, xs⟩).set1 true⟩
        case measure => (have := HK.out; simp [intOf]; omega)
       ·have HYY := Lib.hid hY
        go_wp2
        go_roundw
        case rel => exact ⟨k + 1, HK.out, by simp, by rw [HA.out]; rw [Zn.add_more rfl rfl, show (if Kn.cmp ⟨false, xi, xs⟩ ⟨ln, li, ls⟩ < 0 then (⟨false, xi, xs⟩ : Kn.V) else ⟨ln, li, ls⟩) = ⟨ln, li, ls⟩ from if_neg (by rw [HXE.out]; have := HXX.out; omega), if_neg (show ¬ Kn.cmp ⟨false, xi, xs⟩ ⟨hn, hi, hs⟩ > 0 by rw [HYE.out]; have := HYY.out; omega)]; exact HST4.out.set1 true⟩
        case measure => (have := HK.out; simp [intOf]; omega)
    ·have HQ := HST2
     obtain ⟨x0, x1, x2⟩ := HX.out
     obtain ⟨z0, z1, z2, z3, z4, z5, z6, z7⟩ := HST2.out.blk.cells
     obtain ⟨f0, f1, f2, f3, f4, f5, f6, f7⟩ := HST2.out.blk.frozens
     simp only at x0 x1 x2 z0 z1 z2 z3 z4 z5 z6 z7
     go_wp2
     go_roundw
     case rel => exact ⟨k + 1, HK.out, by simp, by rw [HA.out]; rw [Zn.add_null rfl]; exact HST2.out.set0 true⟩
     case measure => (have := HK.out; simp [intOf]; omega)
  ·obtain rfl : k = l.length := by omega
   rw [List.take_length] at hst
   have HZL : Hid ((Zn.of l).lo.s.size ≤ 140737488355328 ∧ (Zn.of l).hi.s.size ≤ 140737488355328) := Lib.hid (Zn.of_size HZ.out)
   have dk : ¬ (l.length : Int) < (l.length : Int) := by omega
   generalize hzz : Zn.of l = z at hst HZL
   have HZZ := Lib.hid hzz
   clear hzz
   have HST2 := Lib.hid hst
   clear hst hk hkl
   obtain ⟨zn, zw, ⟨ln, li, ls⟩, ⟨hn, hi, hs⟩⟩ := z
   simp only at HST2 HZL
   have C1 := fun wz => Tx.clone_c ls wz HZL.out.1
   have C2 := fun wz => Tx.clone_c hs wz HZL.out.2
   go_upto_region 13 with (fail)
   clear dk
   have HK : Hid (∀ W, Zn.St w ⟨zn, zw, ⟨ln, li, ls⟩, ⟨hn, hi, hs⟩⟩ W → W.cell? ⟨w.heap.size + 1, 4, none⟩ = some (.string ls) ∧ W.cell? ⟨w.heap.size + 1, 7, none⟩ = some (.string hs) ∧ W.frozen? ⟨w.heap.size + 1, 4, none⟩ = false ∧ W.frozen? ⟨w.heap.size + 1, 7, none⟩ = false ∧ Zn.St w ⟨zn, zw, ⟨ln, li, ls⟩, ⟨hn, hi, hs⟩⟩ W) := Lib.hid fun W h =>
    ⟨h.blk.cells.2.2.2.2.1, h.blk.cells.2.2.2.2.2.2.2, h.blk.frozen 4, h.blk.frozen 7, h⟩
   have HD : Hid (Zn.St w ⟨zn, zw, ⟨ln, li, ls⟩, ⟨hn, hi, hs⟩⟩ wr.drew) := Lib.hid (HST2.out.kept (Kn.drewN_below wr 1))
   go_region_held3 (fun W => W.cell? ⟨w.heap.size + 1, 4, none⟩ = some (.string ls) ∧ W.cell? ⟨w.heap.size + 1, 7, none⟩ = some (.string hs) ∧ W.frozen? ⟨w.heap.size + 1, 4, none⟩ = false ∧ W.frozen? ⟨w.heap.size + 1, 7, none⟩ = false ∧ Zn.St w ⟨zn, zw, ⟨ln, li, ls⟩, ⟨hn, hi, hs⟩⟩ W)
    (first
     | exact HK.out _ HD.out
     | exact HK.out _ ((by assumption : _ ∧ _ ∧ _ ∧ _ ∧ Zn.St w ⟨zn, zw, ⟨ln, li, ls⟩, ⟨hn, hi, hs⟩⟩ _).2.2.2.2.kept g1)
     | exact HK.out _ ((by assumption : _ ∧ _ ∧ _ ∧ _ ∧ Zn.St w ⟨zn, zw, ⟨ln, li, ls⟩, ⟨hn, hi, hs⟩⟩ _).2.2.2.2.kept g2)
     | exact HK.out _ (by assumption : _ ∧ _ ∧ _ ∧ _ ∧ Zn.St w ⟨zn, zw, ⟨ln, li, ls⟩, ⟨hn, hi, hs⟩⟩ _).2.2.2.2.s4
     | exact HK.out _ (by assumption : _ ∧ _ ∧ _ ∧ _ ∧ Zn.St w ⟨zn, zw, ⟨ln, li, ls⟩, ⟨hn, hi, hs⟩⟩ _).2.2.2.2.s7)
    (first
     | (go_at_call 112; (with_reducible refine (C1 _).mono ?_); rintro e w1 ⟨rfl, g1⟩)
     | (go_at_call 112; (with_reducible refine (C2 _).mono ?_); rintro e w2 ⟨rfl, g2⟩))
   have HE := Lib.hid (by assumption : _ ∧ _ ∧ _ ∧ _ ∧ Zn.St w ⟨zn, zw, ⟨ln, li, ls⟩, ⟨hn, hi, hs⟩⟩ _).2.2.2.2
   generalize World.setCell _ _ _ = we at HE ⊢
   obtain ⟨z0, z1, z2, z3, z4, z5, z6, z7⟩ := HE.out.blk.cells
   obtain ⟨r0, r1, r2, r3, r4, r5, r6, r7⟩ := HE.out.res.cells
   obtain ⟨f0, f1, f2, f3, f4, f5, f6, f7⟩ := HE.out.res.frozens
   simp only at z0 z1 z2 z3 z4 z5 z6 z7
   clear HK HD C1 C2
   go_wp2
   have HP := Lib.hid (Zn.put_below (q := w.heap.size) HE.out.bel (Nat.le_refl _) ⟨zn, zw, ⟨ln, li, ls⟩, ⟨hn, hi, hs⟩⟩)
   (try simp only [Exit.inBlock, Exit.then])
   refine bodyPost_ret (v := .agg #[.bool zn, .bool zw, .bool ln, .int .i64 li, .string ls, .bool hn, .int .i64 hi, .string hs]) ?_ rfl ⟨by rw [HZZ.out], HP.out⟩
   rw [Zn.results_cell rfl]
   go_simp
end
section
open Go.RowKit
structure Zn.SA (w : World) (z : Zn.Zo) (v : Kn.V) (W : World) : Prop where
 blk : Zn.Blk W w.heap.size z
 val : Kn.At W (w.heap.size + 1) 0 v
 res : Zn.Blk W (w.heap.size + 2) Zn.z0
 bel : Below w.heap.size w W
theorem Zn.SA.start (w : World) (z : Zn.Zo) (v : Kn.V) : Zn.SA w z v (((w.alloc (.cells (Zn.cs z) 68)).alloc (.cells #[.bool v.null, .int .i64 v.n, .string v.s] 33)).alloc (.cells (Zn.cs Zn.z0) 68)) := by
 refine ⟨((Zn.Blk.new w z).alloc _).alloc _, ?_, ?_, (((Below.refl _ w).alloc (Nat.le_refl _) _).alloc (by simp) _).alloc (by simp; omega) _⟩
 ·have := (Kn.At.new (w.alloc (.cells (Zn.cs z) 68)) v 33).alloc (.cells (Zn.cs Zn.z0) 68)
  rwa [World.size_alloc] at this
 ·have := Zn.Blk.new ((w.alloc (.cells (Zn.cs z) 68)).alloc (.cells #[.bool v.null, .int .i64 v.n, .string v.s] 33)) Zn.z0
  rwa [World.size_alloc, World.size_alloc] at this
theorem Zn.SA.kept {w W W' : World} {z : Zn.Zo} {v : Kn.V} (h : Zn.SA w z v W) (g : Below W.heap.size W W') : Zn.SA w z v W' := ⟨h.blk.kept g, h.val.later g, h.res.kept g, Zn.grow h.bel g⟩
theorem Zn.SA.set0 {w W : World} {z : Zn.Zo} {v : Kn.V} (h : Zn.SA w z v W) (b : Bool) : Zn.SA w ⟨b, z.values, z.lo, z.hi⟩ v (W.setCell ⟨w.heap.size, 0, none⟩ (.bool b)) :=
 ⟨h.blk.set0 b, Zn.At_set h.val (by omega) _ _, h.res.other (by omega) _ _, Zn.below_set h.bel (by omega) _ _⟩
theorem Zn.SA.set1 {w W : World} {z : Zn.Zo} {v : Kn.V} (h : Zn.SA w z v W) (b : Bool) : Zn.SA w ⟨z.nulls, b, z.lo, z.hi⟩ v (W.setCell ⟨w.heap.size, 1, none⟩ (.bool b)) :=
 ⟨h.blk.set1 b, Zn.At_set h.val (by omega) _ _, h.res.other (by omega) _ _, Zn.below_set h.bel (by omega) _ _⟩
theorem Zn.SA.setLo {w W : World} {z : Zn.Zo} {v : Kn.V} (h : Zn.SA w z v W) (u : Kn.V) : Zn.SA w ⟨z.nulls, z.values, u, z.hi⟩ v (((W.setCell ⟨w.heap.size, 2, none⟩ (.bool u.null)).setCell ⟨w.heap.size, 3, none⟩ (.int .i64 u.n)).setCell ⟨w.heap.size, 4, none⟩ (.string u.s)) :=
 ⟨h.blk.setLo u, Zn.At_set3 h.val (by omega) _ _ _ _ _ _, ((h.res.other (by omega) _ _).other (by omega) _ _).other (by omega) _ _, Zn.below_set3 h.bel (by omega) _ _ _ _ _ _⟩
theorem Zn.SA.setHi {w W : World} {z : Zn.Zo} {v : Kn.V} (h : Zn.SA w z v W) (u : Kn.V) : Zn.SA w ⟨z.nulls, z.values, z.lo, u⟩ v (((W.setCell ⟨w.heap.size, 5, none⟩ (.bool u.null)).setCell ⟨w.heap.size, 6, none⟩ (.int .i64 u.n)).setCell ⟨w.heap.size, 7, none⟩ (.string u.s)) :=
 ⟨h.blk.setHi u, Zn.At_set3 h.val (by omega) _ _ _ _ _ _, ((h.res.other (by omega) _ _).other (by omega) _ _).other (by omega) _ _, Zn.below_set3 h.bel (by omega) _ _ _ _ _ _⟩
theorem Zn.add_more2 {z : Zn.Zo} {v : Kn.V} (h : v.null = false) (hz : z.values = true) : Zn.add z v = ⟨z.nulls, true, if Kn.cmp v z.lo < 0 then v else z.lo, if Kn.cmp z.hi v < 0 then v else z.hi⟩ := by
 rw [Zn.add_more h hz]
 have := Zn.anti z.hi v
 by_cases hc : Kn.cmp z.hi v < 0
 ·rw [if_pos hc, if_pos (show Kn.cmp v z.hi > 0 by omega)]
 ·rw [if_neg hc, if_neg (show ¬ Kn.cmp v z.hi > 0 by omega)]
set_option maxHeartbeats 4000000 in
set_option maxRecDepth 100000 in
theorem Zn.radd_c (z : Zn.Zo) (x : Kn.V) (hl : Kn.Z z.lo) (hh : Kn.Z z.hi) (hx : Kn.Z x) (w : World) : Calls Tryz.prog 58 #[z.val, x.val] w fun e w' => e = .returned (Zn.add z x).val ∧ Below w.heap.size w w' := by
 have HST := Lib.hid (Zn.SA.start w z x)
 have cL := Kn.rAhead_c x z.lo hx hl
 have cU := Kn.rAhead_c z.hi x hh hx
 clear hl hh hx
 obtain ⟨xn, xi, xs⟩ := x
 obtain ⟨zn, zw, ⟨ln, li, ls⟩, ⟨hn, hi, hs⟩⟩ := z
 unfold Kn.V.val at cL cU
 simp only at cL cU
 simp only [Zn.cs, Zn.z0, Zn.zv] at HST
 have HCL : Hid (∀ w, _) := Lib.hid cL
 have HCU : Hid (∀ w, _) := Lib.hid cU
 clear cL cU
 go_enter Tryz.func58, Tryz.ntmps58
 go_upto_region 1 with (fail)
 generalize hwo : ((w.alloc _).alloc _).alloc _ = wo at HST ⊢
 clear hwo
 cases xn
 ·cases zw
  ·have HQ := HST
   obtain ⟨x0, x1, x2⟩ := HST.out.val
   obtain ⟨z0, z1, z2, z3, z4, z5, z6, z7⟩ := HST.out.blk.cells
   obtain ⟨f0, f1, f2, f3, f4, f5, f6, f7⟩ := HST.out.blk.frozens
   obtain ⟨r0, r1, r2, r3, r4, r5, r6, r7⟩ := HST.out.res.cells
   obtain ⟨h0, h1, h2, h3, h4, h5, h6, h7⟩ := HST.out.res.frozens
   simp only at x0 x1 x2 z0 z1 z2 z3 z4 z5 z6 z7
   go_upto_region 6 with (fail)
   have HST2 := Lib.hid (HST.out.setLo ⟨false, xi, xs⟩)
   clear x0 x1 x2 z0 z1 z2 z3 z4 z5 z6 z7 f0 f1 f2 f3 f4 f5 f6 f7 r0 r1 r2 r3 r4 r5 r6 r7 h0 h1 h2 h3 h4 h5 h6 h7
   simp only at HST2
   generalize ((wo.setCell ⟨w.heap.size, 2, none⟩ (.bool false)).setCell ⟨w.heap.size, 3, none⟩ (.int .i64 xi)).setCell ⟨w.heap.size, 4, none⟩ (.string xs) = w2 at HST2 ⊢
   obtain ⟨x0, x1, x2⟩ := HST2.out.val
   obtain ⟨z0, z1, z2, z3, z4, z5, z6, z7⟩ := HST2.out.blk.cells
   obtain ⟨f0, f1, f2, f3, f4, f5, f6, f7⟩ := HST2.out.blk.frozens
   obtain ⟨r0, r1, r2, r3, r4, r5, r6, r7⟩ := HST2.out.res.cells
   obtain ⟨h0, h1, h2, h3, h4, h5, h6, h7⟩ := HST2.out.res.frozens
   simp only at x0 x1 x2 z0 z1 z2 z3 z4 z5 z6 z7
   have HE : Hid (Zn.SA w ⟨zn, true, ⟨false, xi, xs⟩, ⟨false, xi, xs⟩⟩ ⟨false, xi, xs⟩ _) := Lib.hid ((HST2.out.setHi ⟨false, xi, xs⟩).set1 true)
   go_wp2
   have HP := Lib.hid (Zn.put_below (q := w.heap.size + 2) HE.out.bel (by omega) ⟨zn, true, ⟨false, xi, xs⟩, ⟨false, xi, xs⟩⟩)
   (try simp only [Exit.inBlock, Exit.then])
   refine bodyPost_ret (v := .agg #[.bool zn, .bool true, .bool false, .int .i64 xi, .string xs, .bool false, .int .i64 xi, .string xs]) ?_ rfl ⟨by rw [Zn.add_first rfl rfl], HP.out⟩
   rw [Zn.results_cell rfl]
   go_simp
  ·generalize hX : Kn.cmp ⟨false, xi, xs⟩ ⟨ln, li, ls⟩ = Xx at HCL
   generalize hY : Kn.cmp ⟨hn, hi, hs⟩ ⟨false, xi, xs⟩ = Y at HCU
   have HXE := Lib.hid hX
   have HYE := Lib.hid hY
   clear hX hY
   obtain ⟨x0, x1, x2⟩ := HST.out.val
   obtain ⟨z0, z1, z2, z3, z4, z5, z6, z7⟩ := HST.out.blk.cells
   obtain ⟨f0, f1, f2, f3, f4, f5, f6, f7⟩ := HST.out.blk.frozens
   obtain ⟨r0, r1, r2, r3, r4, r5, r6, r7⟩ := HST.out.res.cells
   obtain ⟨h0, h1, h2, h3, h4, h5, h6, h7⟩ := HST.out.res.frozens
   simp only at x0 x1 x2 z0 z1 z2 z3 z4 z5 z6 z7
   go_wp2_with fail
   with_reducible refine (HCL.out _).mono ?_
   rintro e w1 ⟨rfl, g1⟩
   have HST3 := Lib.hid (HST.out.kept g1)
   clear x0 x1 x2 z0 z1 z2 z3 z4 z5 z6 z7 f0 f1 f2 f3 f4 f5 f6 f7 r0 r1 r2 r3 r4 r5 r6 r7 h0 h1 h2 h3 h4 h5 h6 h7 g1
   obtain ⟨x0, x1, x2⟩ := HST3.out.val
   obtain ⟨z0, z1, z2, z3, z4, z5, z6, z7⟩ := HST3.out.blk.cells
   obtain ⟨f0, f1, f2, f3, f4, f5, f6, f7⟩ := HST3.out.blk.frozens
   obtain ⟨r0, r1, r2, r3, r4, r5, r6, r7⟩ := HST3.out.res.cells
   obtain ⟨h0, h1, h2, h3, h4, h5, h6, h7⟩ := HST3.out.res.frozens
   simp only at x0 x1 x2 z0 z1 z2 z3 z4 z5 z6 z7
   by_cases hX : Xx < 0
   ·have HXX := Lib.hid hX
    go_upto_region 6 with (fail)
    have HST5 := Lib.hid (HST3.out.setLo ⟨false, xi, xs⟩)
    clear x0 x1 x2 z0 z1 z2 z3 z4 z5 z6 z7 f0 f1 f2 f3 f4 f5 f6 f7 r0 r1 r2 r3 r4 r5 r6 r7 h0 h1 h2 h3 h4 h5 h6 h7
    simp only at HST5
    generalize ((w1.setCell ⟨w.heap.size, 2, none⟩ (.bool false)).setCell ⟨w.heap.size, 3, none⟩ (.int .i64 xi)).setCell ⟨w.heap.size, 4, none⟩ (.string xs) = w2 at HST5 ⊢
    obtain ⟨x0, x1, x2⟩ := HST5.out.val
    obtain ⟨z0, z1, z2, z3, z4, z5, z6, z7⟩ := HST5.out.blk.cells
    obtain ⟨f0, f1, f2, f3, f4, f5, f6, f7⟩ := HST5.out.blk.frozens
    obtain ⟨r0, r1, r2, r3, r4, r5, r6, r7⟩ := HST5.out.res.cells
    obtain ⟨h0, h1, h2, h3, h4, h5, h6, h7⟩ := HST5.out.res.frozens
    simp only at x0 x1 x2 z0 z1 z2 z3 z4 z5 z6 z7
    go_wp2_with fail
    with_reducible refine (HCU.out _).mono ?_
    rintro e w3 ⟨rfl, g3⟩
    have HST4 := Lib.hid (HST5.out.kept g3)
    clear x0 x1 x2 z0 z1 z2 z3 z4 z5 z6 z7 f0 f1 f2 f3 f4 f5 f6 f7 r0 r1 r2 r3 r4 r5 r6 r7 h0 h1 h2 h3 h4 h5 h6 h7 g3
    obtain ⟨x0, x1, x2⟩ := HST4.out.val
    obtain ⟨z0, z1, z2, z3, z4, z5, z6, z7⟩ := HST4.out.blk.cells
    obtain ⟨f0, f1, f2, f3, f4, f5, f6, f7⟩ := HST4.out.blk.frozens
    obtain ⟨r0, r1, r2, r3, r4, r5, r6, r7⟩ := HST4.out.res.cells
    obtain ⟨h0, h1, h2, h3, h4, h5, h6, h7⟩ := HST4.out.res.frozens
    simp only at x0 x1 x2 z0 z1 z2 z3 z4 z5 z6 z7
    by_cases hY : Y < 0
    ·have HYY := Lib.hid hY
     have HE : Hid (Zn.SA w ⟨zn, true, ⟨false, xi, xs⟩, ⟨false, xi, xs⟩⟩ ⟨false, xi, xs⟩ _) := Lib.hid ((HST4.out.setHi ⟨false, xi, xs⟩).set1 true)
     go_wp2
     have HP := Lib.hid (Zn.put_below (q := w.heap.size + 2) HE.out.bel (by omega) ⟨zn, true, ⟨false, xi, xs⟩, ⟨false, xi, xs⟩⟩)
     (try simp only [Exit.inBlock, Exit.then])
     refine bodyPost_ret (v := .agg #[.bool zn, .bool true, .bool false, .int .i64 xi, .string xs, .bool false, .int .i64 xi, .string xs]) ?_ rfl ⟨by rw [Zn.add_more2 rfl rfl, show (if Kn.cmp ⟨false, xi, xs⟩ ⟨ln, li, ls⟩ < 0 then (⟨false, xi, xs⟩ : Kn.V) else ⟨ln, li, ls⟩) = ⟨false, xi, xs⟩ from if_pos (by rw [HXE.out]; have := HXX.out; omega), if_pos (show Kn.cmp ⟨hn, hi, hs⟩ ⟨false, xi, xs⟩ < 0 by rw [HYE.out]; have := HYY.out; omega)], HP.out⟩
     rw [Zn.results_cell rfl]
     go_simp
    ·have HYY := Lib.hid hY
     have HE : Hid (Zn.SA w ⟨zn, true, ⟨false, xi, xs⟩, ⟨hn, hi, hs⟩⟩ ⟨false, xi, xs⟩ _) := Lib.hid (HST4.out.set1 true)
     go_wp2
     have HP := Lib.hid (Zn.put_below (q := w.heap.size + 2) HE.out.bel (by omega) ⟨zn, true, ⟨false, xi, xs⟩, ⟨hn, hi, hs⟩⟩)
     (try simp only [Exit.inBlock, Exit.then])
     refine bodyPost_ret (v := .agg #[.bool zn, .bool true, .bool false, .int .i64 xi, .string xs, .bool hn, .int .i64 hi, .string hs]) ?_ rfl ⟨by rw [Zn.add_more2 rfl rfl, show (if Kn.cmp ⟨false, xi, xs⟩ ⟨ln, li, ls⟩ < 0 then (⟨false, xi, xs⟩ : Kn.V) else ⟨ln, li, ls⟩) = ⟨false, xi, xs⟩ from if_pos (by rw [HXE.out]; have := HXX.out; omega), if_neg (show ¬ Kn.cmp ⟨hn, hi, hs⟩ ⟨false, xi, xs⟩ < 0 by rw [HYE.out]; have := HYY.out; omega)], HP.out⟩
     rw [Zn.results_cell rfl]
     go_simp
   ·have HXX := Lib.hid hX
    go_upto_region 6 with (fail)
    clear x0 x1 x2 z0 z1 z2 z3 z4 z5 z6 z7 f0 f1 f2 f3 f4 f5 f6 f7 r0 r1 r2 r3 r4 r5 r6 r7 h0 h1 h2 h3 h4 h5 h6 h7
    obtain ⟨x0, x1, x2⟩ := HST3.out.val
    obtain ⟨z0, z1, z2, z3, z4, z5, z6, z7⟩ := HST3.out.blk.cells
    obtain ⟨f0, f1, f2, f3, f4, f5, f6, f7⟩ := HST3.out.blk.frozens
    obtain ⟨r0, r1, r2, r3, r4, r5, r6, r7⟩ := HST3.out.res.cells
    obtain ⟨h0, h1, h2, h3, h4, h5, h6, h7⟩ := HST3.out.res.frozens
    simp only at x0 x1 x2 z0 z1 z2 z3 z4 z5 z6 z7
    go_wp2_with fail
    with_reducible refine (HCU.out _).mono ?_
    rintro e w3 ⟨rfl, g3⟩
    have HST4 := Lib.hid (HST3.out.kept g3)
    clear x0 x1 x2 z0 z1 z2 z3 z4 z5 z6 z7 f0 f1 f2 f3 f4 f5 f6 f7 r0 r1 r2 r3 r4 r5 r6 r7 h0 h1 h2 h3 h4 h5 h6 h7 g3
    obtain ⟨x0, x1, x2⟩ := HST4.out.val
    obtain ⟨z0, z1, z2, z3, z4, z5, z6, z7⟩ := HST4.out.blk.cells
    obtain ⟨f0, f1, f2, f3, f4, f5, f6, f7⟩ := HST4.out.blk.frozens
    obtain ⟨r0, r1, r2, r3, r4, r5, r6, r7⟩ := HST4.out.res.cells
    obtain ⟨h0, h1, h2, h3, h4, h5, h6, h7⟩ := HST4.out.res.frozens
    simp only at x0 x1 x2 z0 z1 z2 z3 z4 z5 z6 z7
    by_cases hY : Y < 0
    ·have HYY := Lib.hid hY
     have HE : Hid (Zn.SA w ⟨zn, true, ⟨ln, li, ls⟩, ⟨false, xi, xs⟩⟩ ⟨false, xi, xs⟩ _) := Lib.hid ((HST4.out.setHi ⟨false, xi, xs⟩).set1 true)
     go_wp2
     have HP := Lib.hid (Zn.put_below (q := w.heap.size + 2) HE.out.bel (by omega) ⟨zn, true, ⟨ln, li, ls⟩, ⟨false, xi, xs⟩⟩)
     (try simp only [Exit.inBlock, Exit.then])
     refine bodyPost_ret (v := .agg #[.bool zn, .bool true, .bool ln, .int .i64 li, .string ls, .bool false, .int .i64 xi, .string xs]) ?_ rfl ⟨by rw [Zn.add_more2 rfl rfl, show (if Kn.cmp ⟨false, xi, xs⟩ ⟨ln, li, ls⟩ < 0 then (⟨false, xi, xs⟩ : Kn.V) else ⟨ln, li, ls⟩) = ⟨ln, li, ls⟩ from if_neg (by rw [HXE.out]; have := HXX.out; omega), if_pos (show Kn.cmp ⟨hn, hi, hs⟩ ⟨false, xi, xs⟩ < 0 by rw [HYE.out]; have := HYY.out; omega)], HP.out⟩
     rw [Zn.results_cell rfl]
     go_simp
    ·have HYY := Lib.hid hY
     have HE : Hid (Zn.SA w ⟨zn, true, ⟨ln, li, ls⟩, ⟨hn, hi, hs⟩⟩ ⟨false, xi, xs⟩ _) := Lib.hid (HST4.out.set1 true)
     go_wp2
     have HP := Lib.hid (Zn.put_below (q := w.heap.size + 2) HE.out.bel (by omega) ⟨zn, true, ⟨ln, li, ls⟩, ⟨hn, hi, hs⟩⟩)
     (try simp only [Exit.inBlock, Exit.then])
     refine bodyPost_ret (v := .agg #[.bool zn, .bool true, .bool ln, .int .i64 li, .string ls, .bool hn, .int .i64 hi, .string hs]) ?_ rfl ⟨by rw [Zn.add_more2 rfl rfl, show (if Kn.cmp ⟨false, xi, xs⟩ ⟨ln, li, ls⟩ < 0 then (⟨false, xi, xs⟩ : Kn.V) else ⟨ln, li, ls⟩) = ⟨ln, li, ls⟩ from if_neg (by rw [HXE.out]; have := HXX.out; omega), if_neg (show ¬ Kn.cmp ⟨hn, hi, hs⟩ ⟨false, xi, xs⟩ < 0 by rw [HYE.out]; have := HYY.out; omega)], HP.out⟩
     rw [Zn.results_cell rfl]
     go_simp
 ·have HQ := HST
  obtain ⟨x0, x1, x2⟩ := HST.out.val
  obtain ⟨z0, z1, z2, z3, z4, z5, z6, z7⟩ := HST.out.blk.cells
  obtain ⟨f0, f1, f2, f3, f4, f5, f6, f7⟩ := HST.out.blk.frozens
  obtain ⟨r0, r1, r2, r3, r4, r5, r6, r7⟩ := HST.out.res.cells
  obtain ⟨h0, h1, h2, h3, h4, h5, h6, h7⟩ := HST.out.res.frozens
  simp only at x0 x1 x2 z0 z1 z2 z3 z4 z5 z6 z7
  have HE : Hid (Zn.SA w ⟨true, zw, ⟨ln, li, ls⟩, ⟨hn, hi, hs⟩⟩ ⟨true, xi, xs⟩ _) := Lib.hid (HST.out.set0 true)
  go_wp2
  have HP := Lib.hid (Zn.put_below (q := w.heap.size + 2) HE.out.bel (by omega) ⟨true, zw, ⟨ln, li, ls⟩, ⟨hn, hi, hs⟩⟩)
  (try simp only [Exit.inBlock, Exit.then])
  refine bodyPost_ret (v := .agg #[.bool true, .bool zw, .bool ln, .int .i64 li, .string ls, .bool hn, .int .i64 hi, .string hs]) ?_ rfl ⟨by rw [Zn.add_null rfl], HP.out⟩
  rw [Zn.results_cell rfl]
  go_simp
end
section
open Go.RowKit
theorem Zn.St.put {w W : World} {z : Zn.Zo} (h : Zn.St w z W) (y : Zn.Zo) : Zn.St w y (Zn.put W (w.heap.size + 1) y) :=
 ⟨((((((((h.res.other (by omega) _ _).other (by omega) _ _).other (by omega) _ _).other (by omega) _ _).other (by omega) _ _).other (by omega) _ _).other (by omega) _ _).other (by omega) _ _), h.blk.put y, Zn.put_below h.bel (by omega) y⟩
theorem Zn.of_z {l : List Kn.V} (h : ∀ x ∈ l, Kn.Z x) : Kn.Z (Zn.of l).lo ∧ Kn.Z (Zn.of l).hi := by
 have hz : ∀ v : Kn.V, v = Zn.zv ∨ v ∈ l → Kn.Z v := fun v hv => by
  rcases hv with rfl | hv
  ·unfold Kn.Z Zn.zv; decide
  ·exact h v hv
 exact ⟨hz _ (Zn.of_mem l).1, hz _ (Zn.of_mem l).2⟩
set_option maxHeartbeats 4000000 in
set_option maxRecDepth 100000 in
theorem Zn.rof_c (v : Value) (l : List Kn.V) (w : World) (hv : Kn.Vals w v l) (hz : ∀ x ∈ l, Kn.Z x) : Calls Tryz.prog 29 #[v] w fun e w' => e = .returned (Zn.of l).val ∧ Below w.heap.size w w' := by
 obtain ⟨a, c, rfl, h⟩ := hv
 have HH := Lib.hid h
 have HZ := Lib.hid hz
 have HST := Lib.hid (Zn.St.start w)
 clear h hz
 go_enter Tryz.func29, Tryz.ntmps29
 go_wp2_with fail
 go_loopw [4] (fun i wr => ∃ k : Nat, k ≤ l.length ∧ i = .int .i64 k ∧ Zn.St w (Zn.of (l.take k)) wr) (fun i _ => l.length - (intOf i).toNat)
 case atStart => exact ⟨0, Nat.zero_le _, rfl, HST.out⟩
 case round =>
  obtain ⟨k, hk, rfl, hst⟩ := hrel
  by_cases hkl : k < l.length
  ·rcases HH.out with rfl | ⟨b, o, rfl, hlt, hm, hc⟩
   ·simp at hkl
   ·have hx := List.getElem?_eq_getElem hkl
    have hxz : Kn.Z l[k] := HZ.out _ (List.getElem_mem hkl)
    have htz := Zn.of_z (l := l.take k) fun x hx => HZ.out x (List.mem_of_mem_take hx)
    generalize l[k] = x at hx hxz
    have HA := Lib.hid (Zn.of_take hx)
    generalize Zn.of (l.take k) = z at hst HA htz
    have CA := Lib.hid (Zn.radd_c z x htz.1 htz.2 hxz)
    obtain ⟨e0, e1, e2⟩ := (hc k x hx).later hst.bel
    have dk : (k : Int) < (l.length : Int) := by omega
    have dk0 : (0 : Int) ≤ (k : Int) := by omega
    have HK := Lib.hid hkl
    have HS := Lib.hid hst
    obtain ⟨z0, z1, z2, z3, z4, z5, z6, z7⟩ := hst.blk.cells
    clear hx hc hst hkl hk hxz htz
    obtain ⟨xn, xi, xs⟩ := x
    obtain ⟨zn, zw, ⟨ln, li, ls⟩, ⟨hn, hi, hs⟩⟩ := z
    simp only at e0 e1 e2 z0 z1 z2 z3 z4 z5 z6 z7
    go_upto_region 5 with (fail)
    refine wp_region_still_tail 5 (by kernel_rfl) (by kernel_rfl) ?_
    simp only [List.take_succ_cons, List.take_zero, List.drop_succ_cons, List.drop_zero]
    change wpStill _ _ (World.drew _) (fun a' => wpList _ _ _ _ a' (World.drew _)) _ _
    still_step
    still_step
    still_step
    still_step
    still_step
    refine wpStill_nil ?_
    go_wp2_with fail
    with_reducible refine (CA.out _).mono ?_
    rintro e w1 ⟨rfl, g1⟩
    have HST2 := Lib.hid ((HS.out.kept (Kn.drewN_below wr 1)).kept g1)
    clear z0 z1 z2 z3 z4 z5 z6 z7 e0 e1 e2 g1
    obtain ⟨z0, z1, z2, z3, z4, z5, z6, z7⟩ := HST2.out.blk.cells
    obtain ⟨f0, f1, f2, f3, f4, f5, f6, f7⟩ := HST2.out.blk.frozens
    simp only at z0 z1 z2 z3 z4 z5 z6 z7
    generalize Zn.add ⟨zn, zw, ⟨ln, li, ls⟩, ⟨hn, hi, hs⟩⟩ ⟨xn, xi, xs⟩ = y at HA ⊢
    obtain ⟨yn, yw, ⟨ml, mi, ms⟩, ⟨kn, ki, ks⟩⟩ := y
    go_wp2
    go_roundw
    case rel => exact ⟨k + 1, HK.out, by simp, by rw [HA.out]; exact HST2.out.put ⟨yn, yw, ⟨ml, mi, ms⟩, ⟨kn, ki, ks⟩⟩⟩
    case measure => (have := HK.out; simp [intOf]; omega)
  ·obtain rfl : k = l.length := by omega
   rw [List.take_length] at hst
   have dk : ¬ (l.length : Int) < (l.length : Int) := by omega
   generalize hzz : Zn.of l = z at hst
   have HZZ := Lib.hid hzz
   have HE := Lib.hid hst
   clear hzz hst hk hkl
   obtain ⟨zn, zw, ⟨ln, li, ls⟩, ⟨hn, hi, hs⟩⟩ := z
   obtain ⟨z0, z1, z2, z3, z4, z5, z6, z7⟩ := HE.out.blk.cells
   obtain ⟨r0, r1, r2, r3, r4, r5, r6, r7⟩ := HE.out.res.cells
   obtain ⟨f0, f1, f2, f3, f4, f5, f6, f7⟩ := HE.out.res.frozens
   simp only at z0 z1 z2 z3 z4 z5 z6 z7
   go_wp2
   have HP := Lib.hid (Zn.put_below (q := w.heap.size) HE.out.bel (Nat.le_refl _) ⟨zn, zw, ⟨ln, li, ls⟩, ⟨hn, hi, hs⟩⟩)
   (try simp only [Exit.inBlock, Exit.then])
   refine bodyPost_ret (v := .agg #[.bool zn, .bool zw, .bool ln, .int .i64 li, .string ls, .bool hn, .int .i64 hi, .string hs]) ?_ rfl ⟨by rw [HZZ.out], HP.out⟩
   rw [Zn.results_cell rfl]
   go_simp
end
section
open Go.RowKit
theorem Rn.boxedM (w : World) (z : Zn.Zo) (r : Kn.R) (t : TypeId) : Zn.Blk ((w.alloc (.cells (Zn.cs z) 68)).alloc (.cells #[.bool r.from_, .bool r.til, .bool r.lo.null, .int .i64 r.lo.n, .string r.lo.s, .bool r.hi.null, .int .i64 r.hi.n, .string r.hi.s] t)) w.heap.size z ∧
 Kn.RAt ((w.alloc (.cells (Zn.cs z) 68)).alloc (.cells #[.bool r.from_, .bool r.til, .bool r.lo.null, .int .i64 r.lo.n, .string r.lo.s, .bool r.hi.null, .int .i64 r.hi.n, .string r.hi.s] t)) (w.heap.size + 1) r := by
 refine ⟨(Zn.Blk.new w z).alloc _, ?_⟩
 have := Kn.RAt.new (w.alloc (.cells (Zn.cs z) 68)) r t
 rwa [World.size_alloc] at this
theorem Rn.meet_ways (z : Zn.Zo) (r : Kn.R) : (r.from_ = false ∧ r.til = false ∧ Rn.meets z r = true) ∨ (r.from_ = false ∧ r.til = true ∧ Rn.meets z r = decide (Kn.cmp z.lo r.hi < 0)) ∨ (r.from_ = true ∧ Kn.cmp z.hi r.lo < 0 ∧ Rn.meets z r = false) ∨ (r.from_ = true ∧ ¬ Kn.cmp z.hi r.lo < 0 ∧ r.til = false ∧ Rn.meets z r = true) ∨ (r.from_ = true ∧ ¬ Kn.cmp z.hi r.lo < 0 ∧ r.til = true ∧ Rn.meets z r = decide (Kn.cmp z.lo r.hi < 0)) := by
 unfold Rn.meets
 by_cases h : Kn.cmp z.hi r.lo < 0
 ·cases r.from_ <;> cases r.til <;> simp [h]
 ·cases r.from_ <;> cases r.til <;> simp [h] <;> omega
set_option maxHeartbeats 2000000 in
set_option maxRecDepth 100000 in
theorem Rn.rmeets_c (z : Zn.Zo) (r : Kn.R) (h1 : Kn.Z z.lo) (h2 : Kn.Z z.hi) (hl : Kn.Z r.lo) (hh : Kn.Z r.hi) (w : World) :
 Calls Tryz.prog 55 #[z.val, r.val] w fun e w' => e = .returned (.bool (Rn.meets z r)) ∧ Below w.heap.size w w' := by
 have cL := Kn.rAhead_c z.hi r.lo h2 hl
 have cH := Kn.rAhead_c z.lo r.hi h1 hh
 have hb := Rn.boxedM w z r 43
 have hw := Rn.meet_ways z r
 obtain ⟨rf, rt, rl, rh⟩ := r
 obtain ⟨zn, zv, zl, zh⟩ := z
 simp only [Zn.cs] at hb hw cL cH
 obtain ⟨hZ, hR⟩ := hb
 have HZ := Lib.hid hZ
 have HR := Lib.hid hR
 have hx := hZ.cells
 obtain ⟨y0, y1, y2, y3, y4, y5, y6, y7⟩ := hx
 obtain ⟨c0, c1, ⟨c2, c3, c4⟩, ⟨c5, c6, c7⟩⟩ := hR
 simp only [Nat.reduceAdd] at c3 c4 c6 c7
 unfold Kn.R.val Zn.Zo.val
 unfold Kn.V.val at cL cH
 simp only at y0 y1 y2 y3 y4 y5 y6 y7 c0 c1 c2 c3 c4 c5 c6 c7 ⊢
 clear hZ h1 h2 hl hh
 rcases hw with ⟨rfl, rfl, hv⟩ | ⟨rfl, rfl, hv⟩ | ⟨rfl, h1, hv⟩ | ⟨rfl, h1, rfl, hv⟩ | ⟨rfl, h1, rfl, hv⟩
 ·rw [hv]
  clear hv cL cH
  go_enter Tryz.func55, Tryz.ntmps55
  go_wp2
  go_ret
  exact ⟨rfl, Kn.box2 _ _ _⟩
 ·rw [hv]
  clear hv cL
  go_enter Tryz.func55, Tryz.ntmps55
  go_wp2_with fail
  refine (cH _).mono ?_
  rintro e w1 ⟨rfl, g1⟩
  go_wp2
  go_ret
  exact ⟨rfl, (Kn.box2 _ _ _).trans (g1.mono (by simp; omega))⟩
 ·rw [hv]
  clear hv cH
  go_enter Tryz.func55, Tryz.ntmps55
  go_wp2_with fail
  refine (cL _).mono ?_
  rintro e w1 ⟨rfl, g1⟩
  go_wp2
  go_ret
  exact ⟨rfl, (Kn.box2 _ _ _).trans (g1.mono (by simp; omega))⟩
 ·rw [hv]
  clear hv cH
  go_enter Tryz.func55, Tryz.ntmps55
  go_wp2_with fail
  refine (cL _).mono ?_
  rintro e w1 ⟨rfl, g1⟩
  obtain ⟨d0, d1, _, _⟩ := HR.out.later g1
  have HN : Hid (decide (Kn.cmp zh rl < 0) = false) := Lib.hid (decide_eq_false (by omega))
  go_wp2
  go_ret
  exact ⟨by show Ending.returned (.bool (!decide (Kn.cmp zh rl < 0))) = _; rw [HN.out]; rfl, (Kn.box2 _ _ _).trans (g1.mono (by simp; omega))⟩
 ·rw [hv]
  clear hv
  go_enter Tryz.func55, Tryz.ntmps55
  go_wp2_with fail
  refine (cL _).mono ?_
  rintro e w1 ⟨rfl, g1⟩
  obtain ⟨d0, d1, _, ⟨d5, d6, d7⟩⟩ := HR.out.later g1
  simp only [Nat.reduceAdd] at d6 d7
  have hz1 := (HZ.out.kept g1).cells
  obtain ⟨e0, e1, e2, e3, e4, e5, e6, e7⟩ := hz1
  simp only at e0 e1 e2 e3 e4 e5 e6 e7 d0 d1 d5 d6 d7
  have HN : Hid (decide (Kn.cmp zh rl < 0) = false) := Lib.hid (decide_eq_false (by omega))
  go_wp2_with fail
  refine (cH _).mono ?_
  rintro e w2 ⟨rfl, g2⟩
  go_wp2
  go_ret
  exact ⟨by show Ending.returned (.bool (!decide (Kn.cmp zh rl < 0) && decide (Kn.cmp zl rh < 0))) = _; rw [HN.out]; rfl, (Kn.box2 _ _ _).trans ((g1.trans (g2.mono g1.size)).mono (by simp; omega))⟩
theorem Rn.zone_out {s : List Kn.C} {L : List Dd.D} {b c : Int} (h : ¬ (0 ≤ b ∧ b < (Rn.nb L.length : Int) ∧ 0 ≤ c ∧ c < (s.length : Int))) : Rn.zone s L b c = Zn.z0 := by unfold Rn.zone; rw [if_neg h]
theorem Rn.zone_in {s : List Kn.C} {L : List Dd.D} {b c : Nat} (h : b < Rn.nb L.length ∧ c < s.length) : Rn.zone s L (b : Int) (c : Int) = Zn.of (Bk.col (Rn.bk L b) c) := by
 unfold Rn.zone
 rw [if_pos (by omega)]
 rfl
theorem Rn.col_z {L : List Dd.D} (hz : Bk.Zs L) {i j : Nat} : ∀ x ∈ Bk.col (Rn.bk L i) j, Kn.Z x := fun x hx => by
 obtain ⟨d, hd, _, rfl⟩ := Bk.mem_col.1 hx
 rw [List.getD_eq_getElem?_getD]
 cases h : d.row[j]? with
 | none => unfold Kn.Z; exact Nat.zero_le _
 | some v => exact hz d (Rn.bk_mem hd) v (List.mem_of_getElem? h)
end
section
open Go Go.RowKit
def Rn.zx (F : Nat → Zn.Zo) (i : Nat) : Value := ((Zn.cs (F (i / 8))).toList[i % 8]?).getD (.bool false)
theorem Rn.zx_at (F : Nat → Zn.Zo) (k : Nat) {j : Nat} (hj : j < 8) : Rn.zx F (k * 8 + j) = ((Zn.cs (F k)).toList[j]?).getD (.bool false) := by
 unfold Rn.zx
 rw [show (k * 8 + j) / 8 = k by omega, show (k * 8 + j) % 8 = j by omega]
def Rn.ZR (w : World) (g n : Nat) (F : Nat → Zn.Zo) : Prop := w.rowIs g 68 (n * 8) (Rn.zx F)
theorem Rn.ZR.lt {w : World} {g n : Nat} {F : Nat → Zn.Zo} (h : Rn.ZR w g n F) : g < w.heap.size := World.rowIs.lt h
theorem Rn.ZR.kept {w w' : World} {g n : Nat} {F : Nat → Zn.Zo} (h : Rn.ZR w g n F) (e : w'.heap[g]? = w.heap[g]?) : Rn.ZR w' g n F := World.rowIs.of_block h e
theorem Rn.ZR.congr {w : World} {g n : Nat} {F G : Nat → Zn.Zo} (h : Rn.ZR w g n F) (e : ∀ i, i < n → F i = G i) : Rn.ZR w g n G :=
 World.rowIs.congr h fun i hi => by unfold Rn.zx; rw [e (i / 8) (by omega)]
theorem Rn.ZR.cells {w : World} {g n : Nat} {F : Nat → Zn.Zo} (h : Rn.ZR w g n F) {k : Nat} (hk : k < n) :
 w.cell? ⟨g, k * 8, none⟩ = some (.bool (F k).nulls) ∧ w.cell? ⟨g, k * 8 + 1, none⟩ = some (.bool (F k).values) ∧ w.cell? ⟨g, k * 8 + 2, none⟩ = some (.bool (F k).lo.null) ∧ w.cell? ⟨g, k * 8 + 3, none⟩ = some (.int .i64 (F k).lo.n) ∧ w.cell? ⟨g, k * 8 + 4, none⟩ = some (.string (F k).lo.s)
 ∧ w.cell? ⟨g, k * 8 + 5, none⟩ = some (.bool (F k).hi.null) ∧ w.cell? ⟨g, k * 8 + 6, none⟩ = some (.int .i64 (F k).hi.n) ∧ w.cell? ⟨g, k * 8 + 7, none⟩ = some (.string (F k).hi.s) := by
 have key : ∀ j, j < 8 → w.cell? ⟨g, k * 8 + j, none⟩ = some (((Zn.cs (F k)).toList[j]?).getD (.bool false)) := fun j hj => by
  rw [World.rowIs.cell h (by omega), Rn.zx_at F k hj]
 exact ⟨key 0 (by decide), key 1 (by decide), key 2 (by decide), key 3 (by decide), key 4 (by decide), key 5 (by decide), key 6 (by decide), key 7 (by decide)⟩
theorem Rn.ZR.frozen {w : World} {g n : Nat} {F : Nat → Zn.Zo} (h : Rn.ZR w g n F) (i : Nat) : w.frozen? ⟨g, i, none⟩ = false := World.rowIs.frozen h i
def Rn.zput (w : World) (g o : Nat) (z : Zn.Zo) : World := (((((((w.setCell ⟨g, o, none⟩ (.bool z.nulls)).setCell ⟨g, o + 1, none⟩ (.bool z.values)).setCell ⟨g, o + 2, none⟩ (.bool z.lo.null)).setCell ⟨g, o + 3, none⟩ (.int .i64 z.lo.n)).setCell ⟨g, o + 4, none⟩ (.string z.lo.s)).setCell ⟨g, o + 5, none⟩ (.bool z.hi.null)).setCell ⟨g, o + 6, none⟩ (.int .i64 z.hi.n)).setCell ⟨g, o + 7, none⟩ (.string z.hi.s)
theorem Rn.zput_below {B : Nat} {w w' : World} {q o : Nat} (g : Below B w w') (h : B ≤ q) (z : Zn.Zo) : Below B w (Rn.zput w' q o z) :=
 Zn.below_set (Zn.below_set (Zn.below_set (Zn.below_set (Zn.below_set (Zn.below_set (Zn.below_set (Zn.below_set g h _ _) h _ _) h _ _) h _ _) h _ _) h _ _) h _ _) h _ _
theorem Rn.ZR.put {w : World} {g n : Nat} {F : Nat → Zn.Zo} (h : Rn.ZR w g n F) (k : Nat) (z : Zn.Zo) : Rn.ZR (Rn.zput w g (k * 8) z) g n (fun i => if i = k then z else F i) := by
 unfold Rn.zput Rn.ZR
 refine World.rowIs.congr ((((((((World.rowIs.set h (k * 8) _).set (k * 8 + 1) _).set (k * 8 + 2) _).set (k * 8 + 3) _).set (k * 8 + 4) _).set (k * 8 + 5) _).set (k * 8 + 6) _).set (k * 8 + 7) _) fun i _ => ?_
 by_cases e : i / 8 = k
 ·obtain ⟨j, hj, rfl⟩ : ∃ j, j < 8 ∧ i = k * 8 + j := ⟨i % 8, by omega, by omega⟩
  rw [Rn.zx_at F k hj, Rn.zx_at (fun i => if i = k then z else F i) k hj]
  dsimp only
  rw [if_pos (rfl : k = k)]
  have h8 : j = 0 ∨ j = 1 ∨ j = 2 ∨ j = 3 ∨ j = 4 ∨ j = 5 ∨ j = 6 ∨ j = 7 := by omega
  rcases h8 with rfl | rfl | rfl | rfl | rfl | rfl | rfl | rfl <;> simp
 ·have hn : ∀ j, j < 8 → ¬ i = k * 8 + j := fun j hj h => e (by omega)
  have h0 := hn 0 (by decide)
  rw [Nat.add_zero] at h0
  rw [if_neg (hn 7 (by decide)), if_neg (hn 6 (by decide)), if_neg (hn 5 (by decide)), if_neg (hn 4 (by decide)), if_neg (hn 3 (by decide)), if_neg (hn 2 (by decide)), if_neg (hn 1 (by decide)), if_neg h0]
  unfold Rn.zx
  dsimp only
  rw [if_neg e]
theorem Rn.ZR.made (w : World) (n : Nat) : Rn.ZR (w.alloc (.cells (madeCells (Zn.cs Zn.z0) (n * 8)) 68)) w.heap.size n (fun _ => Zn.z0) := by
 refine ⟨_, Go.Deep.blk_alloc_new _ _, size_madeCells _ _, fun i hi => ?_⟩
 unfold madeCells
 rw [Array.getElem?_map, Array.getElem?_range, if_pos hi]
 unfold Rn.zx
 obtain ⟨j, hj⟩ : ∃ j, j = i % 8 := ⟨_, rfl⟩
 have h8 : j = 0 ∨ j = 1 ∨ j = 2 ∨ j = 3 ∨ j = 4 ∨ j = 5 ∨ j = 6 ∨ j = 7 := by omega
 rw [← hj]
 rcases h8 with h | h | h | h | h | h | h | h <;> (subst h; simp [Zn.z0, Zn.zv, ← hj])
def Rn.Zs (w : World) (v : Value) (s : List Kn.C) (L : List Dd.D) : Prop :=
 ∃ b c, v = .slice (some ⟨b, 0, none⟩) (Rn.nb L.length) c ∧ b < w.heap.size ∧ ∀ i, i < Rn.nb L.length → ∃ g, w.cell? ⟨b, i, none⟩ = some (.slice (some ⟨g, 0, none⟩) s.length s.length) ∧ Rn.ZR w g s.length (fun j => Rn.zone s L i j)
structure Rn.P (w : World) (p : Nat) (s : List Kn.C) (L : List Dd.D) : Prop where
 lt : p < w.heap.size
 run : ∃ d z, w.cell? ⟨p, 0, none⟩ = some d ∧ w.cell? ⟨p, 1, none⟩ = some z ∧ Bk.Ds w d L ∧ Rn.Zs w z s L
theorem Rn.P.later {w w' : World} {p : Nat} {s : List Kn.C} {L : List Dd.D} (h : Rn.P w p s L) (g : Below w.heap.size w w') : Rn.P w' p s L := by
 obtain ⟨hl, d, z, c0, c1, hd, b, c, hz, hb, hr⟩ := h
 refine ⟨Nat.lt_of_lt_of_le hl g.size, d, z, (g.cell (p := ⟨p, 0, none⟩) hl).trans c0, (g.cell (p := ⟨p, 1, none⟩) hl).trans c1, hd.later g, b, c, hz, Nat.lt_of_lt_of_le hb g.size, fun i hi => ?_⟩
 obtain ⟨x, h1, h2⟩ := hr i hi
 exact ⟨x, (g.cell (p := ⟨b, i, none⟩) hb).trans h1, h2.kept (g.block x h2.lt)⟩
theorem Rn.P.drew {w : World} {p : Nat} {s : List Kn.C} {L : List Dd.D} (h : Rn.P w p s L) : Rn.P w.drew p s L := h.later (Below.refl _ w).drew
set_option maxRecDepth 100000 in
theorem Rn.len_c {w : World} {p : Nat} {s : List Kn.C} {L : List Dd.D} (h : Rn.P w p s L) :
 Calls Tryz.prog 32 #[.pointer (some ⟨p, 0, none⟩)] w fun e w' => e = .returned (.int .i64 (L.length : Int)) ∧ w' = w := by
 obtain ⟨_, d, z, c0, _, ⟨a, c, rfl, -⟩, -⟩ := h
 go_enter Tryz.func32, Tryz.ntmps32
 go_wp2
 go_ret
 exact ⟨rfl, rfl⟩
set_option maxRecDepth 100000 in
theorem Rn.blocks_c {w : World} {p : Nat} {s : List Kn.C} {L : List Dd.D} (h : Rn.P w p s L) :
 Calls Tryz.prog 26 #[.pointer (some ⟨p, 0, none⟩)] w fun e w' => e = .returned (.int .i64 (Rn.nb L.length : Nat)) ∧ w' = w := by
 obtain ⟨_, d, z, _, c1, -, b, c, rfl, -⟩ := h
 go_enter Tryz.func26, Tryz.ntmps26
 go_wp2
 go_ret
 exact ⟨rfl, rfl⟩
end
end Go.Proofs.YtbelkhkllneifaaGreatDoor
