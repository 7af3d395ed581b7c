/-
  Contracts of package zone: which zones may hold.
-/
import Derived.Test.YtdjnjhlcdcmeaaaZ5
import Derived.Deep.DeepCutAuto
namespace Go.Proofs.Ytdjnjhlcdcmeaaa
open Go.RowKit
/-- The condition and the zone, boxed one behind the other. -/
theorem Zn.boxedZ (w : World) (a : Zn.As) (z : Zn.Zo) (t : TypeId) : Zn.ABlk ((w.alloc (.cells #[.int .i64 a.op, .int .i64 a.col, .bool a.v.null, .int .i64 a.v.n, .string a.v.s] t)).alloc (.cells (Zn.cs z) 30)) w.heap.size a ∧
    Zn.Blk ((w.alloc (.cells #[.int .i64 a.op, .int .i64 a.col, .bool a.v.null, .int .i64 a.v.n, .string a.v.s] t)).alloc (.cells (Zn.cs z) 30)) (w.heap.size + 1) z ∧
    Below w.heap.size w ((w.alloc (.cells #[.int .i64 a.op, .int .i64 a.col, .bool a.v.null, .int .i64 a.v.n, .string a.v.s] t)).alloc (.cells (Zn.cs z) 30)) := by
  refine ⟨(Zn.ABlk.new w a t).kept ((Below.refl _ _).alloc (Nat.le_refl _) _), ?_, ((Below.refl _ w).alloc (Nat.le_refl _) _).alloc (by simp) _⟩
  have := Zn.Blk.new (w.alloc (.cells #[.int .i64 a.op, .int .i64 a.col, .bool a.v.null, .int .i64 a.v.n, .string a.v.s] t)) z
  rwa [World.size_alloc] at this
theorem Zn.below_alloc {w w' : World} (h : Below w.heap.size w w') (o : Obj) : Below w.heap.size w (w'.alloc o) := h.alloc h.size o
theorem Zn.may1 (col : Int) (v l h : Kn.V) (zn : Bool) (hv : v.null = false) : Zn.may ⟨1, col, v⟩ ⟨zn, true, l, h⟩ = (decide (Kn.cmp (Zn.bare l) v ≤ 0) && decide (0 ≤ Kn.cmp (Zn.bare h) v)) := by
  unfold Zn.may
  rw [if_neg (show ¬ (1 : Int) = 0 by decide), if_neg (show ¬ (1 : Int) = 4 by decide), if_neg (show ¬ (1 : Int) = 5 by decide), if_neg (by simp [hv]), if_pos rfl]
theorem Zn.may2 (col : Int) (v l h : Kn.V) (zn : Bool) (hv : v.null = false) : Zn.may ⟨2, col, v⟩ ⟨zn, true, l, h⟩ = decide (Kn.cmp (Zn.bare l) v < 0) := by
  unfold Zn.may
  rw [if_neg (show ¬ (2 : Int) = 0 by decide), if_neg (show ¬ (2 : Int) = 4 by decide), if_neg (show ¬ (2 : Int) = 5 by decide), if_neg (by simp [hv]), if_neg (show ¬ (2 : Int) = 1 by decide), if_pos rfl]
theorem Zn.may3 (col : Int) (v l h : Kn.V) (zn : Bool) (hv : v.null = false) : Zn.may ⟨3, col, v⟩ ⟨zn, true, l, h⟩ = decide (0 ≤ Kn.cmp (Zn.bare h) v) := by
  unfold Zn.may
  rw [if_neg (show ¬ (3 : Int) = 0 by decide), if_neg (show ¬ (3 : Int) = 4 by decide), if_neg (show ¬ (3 : Int) = 5 by decide), if_neg (by simp [hv]), if_neg (show ¬ (3 : Int) = 1 by decide), if_neg (show ¬ (3 : Int) = 2 by decide), if_pos rfl]
set_option maxHeartbeats 1000000 in
set_option maxRecDepth 100000 in
/-- Where no value has to be compared. -/
theorem Zn.may_plain (a : Zn.As) (z : Zn.Zo) (hp : a.op = 0 ∨ a.op = 4 ∨ a.op = 5 ∨ z.values = false ∨ a.v.null = true) (w : World) : Calls Try.prog 13 #[a.val, z.val] w fun e w' => e = .returned (.bool (Zn.may a z)) ∧ Below w.heap.size w w' := by
  obtain ⟨⟨a0, a1, a2, a3, a4⟩, hZ, hb⟩ := Zn.boxedZ w a z 25
  obtain ⟨x0, x1, x2, x3, x4, x5, x6, x7⟩ := hZ.cells
  clear hZ
  obtain ⟨op, col, ⟨an, ai, sa⟩⟩ := a
  obtain ⟨zn, zw, ⟨ln, li, ls⟩, ⟨hn, hi, hs⟩⟩ := z
  simp only [Zn.cs] at a0 a1 a2 a3 a4 x0 x1 x2 x3 x4 x5 x6 x7 hb hp
  have HB := Lib.hid hb
  have HP := Lib.hid hp
  clear hb hp
  generalize hM : Zn.may ⟨op, col, ⟨an, ai, sa⟩⟩ ⟨zn, zw, ⟨ln, li, ls⟩, ⟨hn, hi, hs⟩⟩ = M
  have HM := Lib.hid hM
  clear hM
  by_cases h0 : op = 0
  · subst h0
    obtain rfl : (zn || zw) = M := by rw [← HM.out]; simp [Zn.may]
    clear HM HP
    cases zn
    all_goals
      go_enter Try.func13, Try.ntmps13
      go_wp2
      go_ret
      exact ⟨rfl, HB.out⟩
  have b0 : (op == 0) = false := by rw [beq_eq_false_iff_ne]; exact h0
  by_cases h4 : op = 4
  · subst h4
    obtain rfl : zn = M := by rw [← HM.out]; simp [Zn.may]
    clear HM HP h0 b0
    go_enter Try.func13, Try.ntmps13
    go_wp2
    go_ret
    exact ⟨rfl, HB.out⟩
  have b4 : (op == 4) = false := by rw [beq_eq_false_iff_ne]; exact h4
  by_cases h5 : op = 5
  · subst h5
    obtain rfl : zw = M := by rw [← HM.out]; simp [Zn.may]
    clear HM HP h0 b0 h4 b4
    go_enter Try.func13, Try.ntmps13
    go_wp2
    go_ret
    exact ⟨rfl, HB.out⟩
  have b5 : (op == 5) = false := by rw [beq_eq_false_iff_ne]; exact h5
  have hz : zw = false ∨ an = true := by
    rcases HP.out with h | h | h | h | h
    · exact absurd h h0
    · exact absurd h h4
    · exact absurd h h5
    · exact .inl h
    · exact .inr h
  obtain rfl : M = false := by
    rw [← HM.out]
    rcases hz with h | h <;> simp [Zn.may, h0, h4, h5, h]
  clear HM HP h0 h4 h5
  cases zw
  · go_enter Try.func13, Try.ntmps13
    go_wp2
    go_ret
    exact ⟨rfl, HB.out⟩
  · obtain rfl : an = true := by rcases hz with h | h; cases h; exact h
    clear hz
    go_enter Try.func13, Try.ntmps13
    go_wp2
    go_ret
    exact ⟨rfl, HB.out⟩
set_option maxHeartbeats 4000000 in
set_option maxRecDepth 100000 in
theorem Zn.may_c (a : Zn.As) (z : Zn.Zo) (w : World) : Calls Try.prog 13 #[a.val, z.val] w fun e w' => e = .returned (.bool (Zn.may a z)) ∧ Below w.heap.size w w' := by
  by_cases hp : a.op = 0 ∨ a.op = 4 ∨ a.op = 5 ∨ z.values = false ∨ a.v.null = true
  · exact Zn.may_plain a z hp w
  obtain ⟨⟨a0, a1, a2, a3, a4⟩, hZ, hb⟩ := Zn.boxedZ w a z 25
  obtain ⟨x0, x1, x2, x3, x4, x5, x6, x7⟩ := hZ.cells
  have CL := Kn.compare_c (Zn.bare z.lo) a.v
  have CU := Kn.compare_c (Zn.bare z.hi) a.v
  have C1 := Zn.filled_x z.lo
  have C2 := Zn.filled_x z.hi
  have hl1 : w.heap.size < ((w.alloc (.cells #[.int .i64 a.op, .int .i64 a.col, .bool a.v.null, .int .i64 a.v.n, .string a.v.s] 25)).alloc (.cells (Zn.cs z) 30)).heap.size := by simp; omega
  have hl2 : w.heap.size + 1 < ((w.alloc (.cells #[.int .i64 a.op, .int .i64 a.col, .bool a.v.null, .int .i64 a.v.n, .string a.v.s] 25)).alloc (.cells (Zn.cs z) 30)).heap.size := by simp
  clear hZ
  obtain ⟨op, col, ⟨an, ai, sa⟩⟩ := a
  obtain ⟨zn, zw, ⟨ln, li, ls⟩, ⟨hn, hi, hs⟩⟩ := z
  unfold Kn.V.val at C1 C2 CL CU
  simp only [Zn.bare, Zn.cs] at a0 a1 a2 a3 a4 x0 x1 x2 x3 x4 x5 x6 x7 hb C1 C2 CL CU hl1 hl2 hp
  have h0 : op ≠ 0 := fun h => hp (.inl h)
  have h4 : op ≠ 4 := fun h => hp (.inr (.inl h))
  have h5 : op ≠ 5 := fun h => hp (.inr (.inr (.inl h)))
  obtain rfl : zw = true := by
    cases zw
    · exact absurd (.inr (.inr (.inr (.inl rfl)))) hp
    · rfl
  obtain rfl : an = false := by
    cases an
    · rfl
    · exact absurd (.inr (.inr (.inr (.inr rfl)))) hp
  have b0 : (op == 0) = false := by rw [beq_eq_false_iff_ne]; exact h0
  have b4 : (op == 4) = false := by rw [beq_eq_false_iff_ne]; exact h4
  have b5 : (op == 5) = false := by rw [beq_eq_false_iff_ne]; exact h5
  have HB := Lib.hid hb
  have HCL : Hid (∀ w, _) := Lib.hid CL
  have HCU : Hid (∀ w, _) := Lib.hid CU
  have HN := Lib.hid (And.intro h0 (And.intro h4 h5))
  clear hb hp h0 h4 h5 CL CU
  generalize hM : Zn.may ⟨op, col, ⟨false, ai, sa⟩⟩ ⟨zn, true, ⟨ln, li, ls⟩, ⟨hn, hi, hs⟩⟩ = M
  have HM := Lib.hid hM
  clear hM
  go_enter Try.func13, Try.ntmps13
  go_upto_region 10 with (fail)
  generalize (World.alloc _ _).alloc _ = wo at HB a0 a1 a2 a3 a4 x0 x1 x2 x3 x4 x5 x6 x7 hl1 hl2 ⊢
  have HS : Hid (∀ W, Below wo.heap.size wo W → W.cell? ⟨w.heap.size + 1, 2, none⟩ = some (.bool ln) ∧ W.cell? ⟨w.heap.size + 1, 3, none⟩ = some (.int .i64 li) ∧ W.cell? ⟨w.heap.size + 1, 4, none⟩ = some (.string ls) ∧ W.cell? ⟨w.heap.size + 1, 5, none⟩ = some (.bool hn) ∧ W.cell? ⟨w.heap.size + 1, 6, none⟩ = some (.int .i64 hi) ∧ W.cell? ⟨w.heap.size + 1, 7, none⟩ = some (.string hs)) := Lib.hid fun W g =>
    ⟨(g.cell (p := ⟨w.heap.size + 1, 2, none⟩) hl2).trans x2, (g.cell (p := ⟨w.heap.size + 1, 3, none⟩) hl2).trans x3, (g.cell (p := ⟨w.heap.size + 1, 4, none⟩) hl2).trans x4, (g.cell (p := ⟨w.heap.size + 1, 5, none⟩) hl2).trans x5, (g.cell (p := ⟨w.heap.size + 1, 6, none⟩) hl2).trans x6, (g.cell (p := ⟨w.heap.size + 1, 7, none⟩) hl2).trans x7⟩
  have HA : Hid (∀ W, Below wo.heap.size wo W → W.cell? ⟨w.heap.size, 0, none⟩ = some (.int .i64 op) ∧ W.cell? ⟨w.heap.size, 2, none⟩ = some (.bool false) ∧ W.cell? ⟨w.heap.size, 3, none⟩ = some (.int .i64 ai) ∧ W.cell? ⟨w.heap.size, 4, none⟩ = some (.string sa)) := Lib.hid fun W g =>
    ⟨(g.cell (p := ⟨w.heap.size, 0, none⟩) hl1).trans a0, (g.cell (p := ⟨w.heap.size, 2, none⟩) hl1).trans a2, (g.cell (p := ⟨w.heap.size, 3, none⟩) hl1).trans a3, (g.cell (p := ⟨w.heap.size, 4, none⟩) hl1).trans a4⟩
  have HO := Lib.hid (Below.refl wo.heap.size wo)
  have HD : Hid (Below wo.heap.size wo wo.drew) := Lib.hid (Kn.drewN_below wo 1)
  clear a0 a1 a2 a3 a4 x0 x1 x2 x3 x4 x5 x6 x7 hl1 hl2
  go_cut [5, 6] (fun s5 s6 wx => ∃ p q : Nat, s5 = .pointer (some ⟨p, 0, none⟩) ∧ s6 = .pointer (some ⟨q, 0, none⟩) ∧ Below wo.heap.size wo wx ∧ Kn.At wx p 0 ⟨false, li, ls⟩ ∧ Kn.At wx q 0 ⟨false, hi, hs⟩)
  case first =>
    go_region_held3 (fun W => W.cell? ⟨w.heap.size + 1, 2, none⟩ = some (.bool ln) ∧ W.cell? ⟨w.heap.size + 1, 3, none⟩ = some (.int .i64 li) ∧ W.cell? ⟨w.heap.size + 1, 4, none⟩ = some (.string ls) ∧ W.cell? ⟨w.heap.size + 1, 5, none⟩ = some (.bool hn) ∧ W.cell? ⟨w.heap.size + 1, 6, none⟩ = some (.int .i64 hi) ∧ W.cell? ⟨w.heap.size + 1, 7, none⟩ = some (.string hs))
      ((refine HS.out _ ?_; repeat' (first | exact HD.out | exact HO.out | refine Below.drew ?_ | refine Zn.below_alloc ?_ _ | (refine Zn.below_set ?_ ?_ _ _))))
      (first
        | (go_at_call 21; (with_reducible refine (C1 _).mono ?_); rintro e w1 ⟨rfl, rfl⟩)
        | (go_at_call 21; (with_reducible refine (C2 _).mono ?_); rintro e w2 ⟨rfl, rfl⟩))
    all_goals (go_wp2_with fail; go_meet; exact ⟨_, _, rfl, rfl, by repeat' (first | exact HD.out | exact HO.out | refine Below.drew ?_ | refine Zn.below_alloc ?_ _), ⟨by go_simp, by go_simp, by go_simp⟩, ⟨by go_simp, by go_simp, by go_simp⟩⟩)
  case rest =>
    obtain ⟨p, q, rfl, rfl, hE, hP, hQ⟩ := hcut
    obtain ⟨c0, c2, c3, c4⟩ := HA.out _ hE
    obtain ⟨p0, p1, p2⟩ := hP
    have HE := Lib.hid (HB.out.trans (hE.mono HB.out.size))
    have HQ := Lib.hid hQ
    have HF := Lib.hid hE
    simp only at p0 p1 p2
    clear hQ hE C1 C2 HS HO HD
    generalize hX : Kn.cmp ⟨false, li, ls⟩ ⟨false, ai, sa⟩ = X at HCL
    generalize hY : Kn.cmp ⟨false, hi, hs⟩ ⟨false, ai, sa⟩ = Y at HCU
    have HX := Lib.hid hX
    have HY := Lib.hid hY
    clear hX hY
    rcases Zn.ops op with rfl | rfl | rfl | rfl | rfl | rfl | ⟨n0, n1, n2, n3, n4, n5, m0, m1, m2, m3, m4, m5⟩
    · exact absurd rfl HN.out.1
    · exact absurd rfl HN.out.2.1
    · exact absurd rfl HN.out.2.2
    · have HM2 : Hid ((decide (X ≤ 0) && decide (0 ≤ Y)) = M) := Lib.hid (by rw [← HM.out, ← HX.out, ← HY.out, Zn.may1 _ _ _ _ _ rfl]; rfl)
      clear HM b0 b4 b5 HX HY
      by_cases hX : X ≤ 0
      · obtain rfl : decide (0 ≤ Y) = M := by rw [← HM2.out, decide_eq_true hX]; rfl
        clear HM2
        go_wp2_with fail
        with_reducible refine (HCL.out _).mono ?_
        rintro e w1 ⟨rfl, g1⟩
        obtain ⟨q0, q1, q2⟩ := HQ.out.later g1
        obtain ⟨d0, d2, d3, d4⟩ := HA.out _ (HF.out.trans (g1.mono HF.out.size))
        simp only at q0 q1 q2
        have HE1 := Lib.hid (HE.out.trans (g1.mono HE.out.size))
        clear g1
        go_wp2_with fail
        with_reducible refine (HCU.out _).mono ?_
        rintro e w2 ⟨rfl, g2⟩
        go_wp2
        go_ret
        exact ⟨rfl, HE1.out.trans (g2.mono HE1.out.size)⟩
      · obtain rfl : false = M := by rw [← HM2.out, decide_eq_false hX]; rfl
        clear HM2
        go_wp2_with fail
        with_reducible refine (HCL.out _).mono ?_
        rintro e w1 ⟨rfl, g1⟩
        go_wp2
        go_ret
        exact ⟨rfl, HE.out.trans (g1.mono HE.out.size)⟩
    · obtain rfl : decide (X < 0) = M := by rw [← HM.out, ← HX.out, Zn.may2 _ _ _ _ _ rfl]; rfl
      clear HM b0 b4 b5 HX HY
      go_wp2_with fail
      with_reducible refine (HCL.out _).mono ?_
      rintro e w1 ⟨rfl, g1⟩
      go_wp2
      go_ret
      exact ⟨rfl, HE.out.trans (g1.mono HE.out.size)⟩
    · obtain rfl : decide (0 ≤ Y) = M := by rw [← HM.out, ← HY.out, Zn.may3 _ _ _ _ _ rfl]; rfl
      obtain ⟨q0, q1, q2⟩ := HQ.out
      simp only at q0 q1 q2
      clear HM b0 b4 b5 HX HY
      go_wp2_with fail
      with_reducible refine (HCU.out _).mono ?_
      rintro e w1 ⟨rfl, g1⟩
      go_wp2
      go_ret
      exact ⟨rfl, HE.out.trans (g1.mono HE.out.size)⟩
    · obtain rfl : false = M := by rw [← HM.out]; simp [Zn.may, m0, m1, m2, m3, m4, m5]
      clear HM HX HY m0 m1 m2 m3 m4 m5
      go_wp2
      go_ret
      exact ⟨rfl, HE.out⟩
end Go.Proofs.Ytdjnjhlcdcmeaaa
