/-
  The laws of package deeds: that it lives; DeedsWrite, DeedsRead.
-/
import Derived.Test.YtccjfmjgkkpndaaDoorV0
namespace Go.Proofs.YtccjfmjgkkpndaaDoor
open Go.RowKit
open Ty (I64)
def Dd.sch : List Kn.C := [⟨1, false⟩, ⟨2, true⟩]
theorem Dd.schema_c (w : World) : Calls Tryd.prog 16 #[] w fun e w' => ∃ v, e = .returned v ∧ Dd.Cols w' v Dd.sch ∧ Below w.heap.size w w' := by
  have HC := Lib.hid (fun i v h => Kn.cell_new w #[.int .i64 1, .bool false, .int .i64 2, .bool true] 39 i v h)
  have HG := Lib.hid ((Below.refl _ w).alloc (Nat.le_refl _) (.cells #[.int .i64 1, .bool false, .int .i64 2, .bool true] 39))
  go_enter Tryd.func16, Tryd.ntmps16
  go_wp2
  go_ret
  refine ⟨_, rfl, ⟨⟨_, 2, rfl, .inr ⟨_, 0, rfl, by simp, by simp [Dd.sch], fun i x hx => ?_⟩⟩, Dd.Cap.of (Nat.le_refl _)⟩, HG.out⟩
  have hi2 : i = 0 ∨ i = 1 := by
    have := (List.getElem?_eq_some_iff.1 hx).1
    simp [Dd.sch] at this
    omega
  rcases hi2 with rfl | rfl
  · obtain rfl : (⟨1, false⟩ : Kn.C) = x := by simpa [Dd.sch] using hx
    exact ⟨HC.out _ _ rfl, HC.out _ _ rfl⟩
  · obtain rfl : (⟨2, true⟩ : Kn.C) = x := by simpa [Dd.sch] using hx
    exact ⟨HC.out _ _ rfl, HC.out _ _ rfl⟩
theorem Dd.wLive : Dd.wV Dd.sch ⟨false, [Cl.ofN 3, Cl.nul]⟩ = .tuple #[.string ⟨#[0, 6, 1]⟩, .int .i64 0] := by kernel_rfl
theorem Dd.rdLive : Dd.rd Dd.sch [1, 6] = (0, ⟨true, [Cl.ofN 3]⟩) := by kernel_rfl
theorem Dd.newLive (w : World) : Kn.Vals (w.alloc (.cells #[.bool false, .int .i64 3, .string ⟨#[]⟩, .bool true, .int .i64 0, .string ⟨#[]⟩] 43)) (.slice (some ⟨w.heap.size, 0, none⟩) 2 2) [Cl.ofN 3, Cl.nul] := by
  refine ⟨_, 2, rfl, .inr ⟨w.heap.size, 0, rfl, by simp, by simp, fun i x hx => ?_⟩⟩
  have hi2 : i = 0 ∨ i = 1 := by
    have := (List.getElem?_eq_some_iff.1 hx).1
    simp at this
    omega
  rcases hi2 with rfl | rfl
  · obtain rfl : Cl.ofN 3 = x := by simpa using hx
    exact ⟨Kn.cell_new _ _ _ _ _ rfl, Kn.cell_new _ _ _ _ _ rfl, Kn.cell_new _ _ _ _ _ rfl⟩
  · obtain rfl : Cl.nul = x := by simpa using hx
    exact ⟨Kn.cell_new _ _ _ _ _ rfl, Kn.cell_new _ _ _ _ _ rfl, Kn.cell_new _ _ _ _ _ rfl⟩
theorem Dd.same_self (d : Dd.D) : Dd.same d d = true := by
  unfold Dd.same
  rw [Kn.sameR_self]
  simp
/-- A deed boxed in a new block. -/
theorem Dd.boxed (w : World) (B : Bool) (u : Value) : (w.alloc (.cells #[.bool B, u] 26)).cell? ⟨w.heap.size, 0, none⟩ = some (.bool B) ∧ (w.alloc (.cells #[.bool B, u] 26)).cell? ⟨w.heap.size, 1, none⟩ = some u ∧ Below w.heap.size w (w.alloc (.cells #[.bool B, u] 26)) ∧ (w.alloc (.cells #[.bool B, u] 26)).heap.size = w.heap.size + 1 :=
  ⟨Kn.cell_new w _ _ 0 _ rfl, Kn.cell_new w _ _ 1 _ rfl, (Below.refl _ _).alloc (Nat.le_refl _) _, World.size_alloc ..⟩
set_option maxHeartbeats 2000000 in
set_option maxRecDepth 100000 in
theorem Dd.lives_c (w : World) (hw : Dd.T w) :
    Calls Tryd.prog 9 #[] w fun e w' => e = .returned (.bool true) ∧ Below w.heap.size w w' := by
  have CS := Lib.hid fun wz => Dd.schema_c wz
  have CW : Hid (∀ (v u : Value) (wz : World), Dd.T wz → Dd.Cols wz v Dd.sch → Kn.Vals wz u [Cl.ofN 3, Cl.nul] → Calls Tryd.prog 10 #[v, .agg #[.bool false, u]] wz fun e w' => e = .returned (.tuple #[.string ⟨#[0, 6, 1]⟩, .int .i64 0]) ∧ Below wz.heap.size wz w') := Lib.hid fun v u wz h1 h2 h3 => by
    have := Dd.write_c v u Dd.sch ⟨false, [Cl.ofN 3, Cl.nul]⟩ wz h1 h2 h3 (fun x hx => by
      simp only [List.mem_cons, List.not_mem_nil, or_false] at hx
      rcases hx with rfl | rfl <;> exact ⟨by decide, by decide⟩)
    rwa [Dd.wLive] at this
  have CR : Hid (∀ (v : Value) (wz : World), Dd.T wz → Dd.Cols wz v Dd.sch → Calls Tryd.prog 12 #[v, .string ⟨#[1, 6]⟩] wz (Dd.Got wz (0, ⟨true, [Cl.ofN 3]⟩))) := Lib.hid fun v wz h1 h2 => by
    have := Dd.read_c v Dd.sch ⟨#[1, 6]⟩ wz h1 h2 (by decide)
    have e0 : (⟨#[1, 6]⟩ : ByteArray).data.toList = [1, 6] := rfl
    rwa [e0, Dd.rdLive] at this
  have CM := Lib.hid fun (u : Value) wz h1 (h2 : Kn.Vals wz u [Cl.ofN 3]) => Dd.same_c u u ⟨true, [Cl.ofN 3]⟩ ⟨true, [Cl.ofN 3]⟩ wz h1 h2 h2
  rw [Dd.same_self] at CM
  have HW := Lib.hid hw
  clear hw
  go_enter Tryd.func9, Tryd.ntmps9
  go_wp2_with fail
  with_reducible refine (CS.out w).mono ?_
  rintro e w1 ⟨v1, rfl, hS1, g1⟩
  have HB1 := Lib.hid g1
  have HS1 := Lib.hid hS1
  clear hS1 g1
  go_wp2_with fail
  have hN := Dd.newLive w1
  have hA : Below w1.heap.size w1 (w1.alloc (.cells #[.bool false, .int .i64 3, .string ⟨#[]⟩, .bool true, .int .i64 0, .string ⟨#[]⟩] 43)) := (Below.refl _ _).alloc (Nat.le_refl _) _
  have HB2 := Lib.hid (HB1.out.trans (hA.mono HB1.out.size))
  have cw := CW.out v1 _ _ (HW.out.below HB2.out) (HS1.out.later hA) hN
  clear hN hA
  generalize World.alloc _ _ = w2 at cw HB2 ⊢
  with_reducible refine cw.mono ?_
  rintro e w3 ⟨rfl, g3⟩
  have HB3 := Lib.hid (HB2.out.trans (g3.mono HB2.out.size))
  clear cw g3
  go_wp2_with fail
  with_reducible refine (CS.out w3).mono ?_
  rintro e w4 ⟨v4, rfl, hS4, g4⟩
  have HB4 := Lib.hid (HB3.out.trans (g4.mono HB3.out.size))
  have cr := CR.out v4 w4 (HW.out.below HB4.out) hS4
  clear hS4 g4
  go_wp2_with fail
  with_reducible refine cr.mono ?_
  rintro e w5 ⟨u5, rfl, hV5, _, g5⟩
  have HB5 := Lib.hid (HB4.out.trans (g5.mono HB4.out.size))
  obtain ⟨b, o, c, rfl, hat⟩ : ∃ b o c, u5 = .slice (some ⟨b, o, none⟩) 1 c ∧ Kn.At w5 b o (Cl.ofN 3) := by
    obtain ⟨a, c, rfl, h⟩ := hV5
    rcases h with h | ⟨b, o, rfl, _, _, h⟩
    · cases h
    · have := h 0 _ rfl
      rw [Nat.zero_mul, Nat.add_zero] at this
      exact ⟨b, o, c, rfl, this⟩
  obtain ⟨b0, b1, hA, hsz⟩ := Dd.boxed w5 true (.slice (some ⟨b, o, none⟩) 1 c)
  have hc1 := (hat.later hA).c1
  have e3 : (Cl.ofN 3).n = 3 := rfl
  rw [e3] at hc1
  have HB6 := Lib.hid (HB5.out.trans (hA.mono HB5.out.size))
  have cm := CM.out _ _ (HW.out.below HB6.out) (hV5.later hA)
  simp only [Int.natCast_zero] at cm ⊢
  clear cr g5 hV5 hat e3 hA
  go_wp2_with fail
  generalize World.alloc _ _ = w6 at cm HB6 b0 b1 hc1 ⊢
  with_reducible refine cm.mono ?_
  rintro e w7 ⟨rfl, g7⟩
  have HB7 := Lib.hid (HB6.out.trans (g7.mono HB6.out.size))
  clear cm g7
  go_wp2
  go_ret
  exact ⟨rfl, HB7.out⟩
set_option maxHeartbeats 2000000 in
set_option maxRecDepth 100000 in
theorem Dd.lawWrite_w (v u : Value) (s : List Kn.C) (d : Dd.D) (w : World) (hw : Dd.T w) (hs : Dd.Cols w v s) (hu : Kn.Vals w u d.row) (hi : ∀ x ∈ d.row, I64 x.n) :
    Calls Tryd.prog 3 #[v, .agg #[.bool d.gone, u]] w fun e w' => e = .returned (.bool true) ∧ Below w.heap.size w w' := by
  have c1 := Lib.hid fun wz hT h1 h2 => Dd.write_c v u s d wz hT h1 h2 hi
  have c2 := Lib.hid fun wz (h1 : Dd.Cols wz v s) h2 => Dd.rwrite_c v u s d wz h1.1 h2 hi
  unfold Dd.wV at c1 c2
  generalize Ty.S (Dd.wS s d) = S at c1 c2
  generalize Dd.fitE s d = E at c1 c2
  have HS := Lib.hid hs
  have HU := Lib.hid hu
  have HW := Lib.hid hw
  obtain ⟨b0, b1, hA, hsz⟩ := Dd.boxed w d.gone u
  have HA := Lib.hid hA
  have HX := Lib.hid (And.intro b0 b1)
  obtain ⟨ua, uc, rfl, _⟩ := hu.is
  clear hs hu hi hw b0 b1 hA
  go_enter Tryd.func3, Tryd.ntmps3
  go_wp2_with fail
  generalize hwo : w.alloc _ = wo at hsz HX HA ⊢
  clear hwo
  with_reducible refine (Dd.lives_c _ (HW.out.below HA.out)).mono ?_
  rintro e w1 ⟨rfl, g1⟩
  have HB1 := Lib.hid (HA.out.trans (g1.mono HA.out.size))
  have y0 := (g1.cell (p := ⟨w.heap.size, 0, none⟩) (by simp [hsz])).trans HX.out.1
  have y1 := (g1.cell (p := ⟨w.heap.size, 1, none⟩) (by simp [hsz])).trans HX.out.2
  have hs1 : w.heap.size < w1.heap.size := by have := g1.size; omega
  have HY := Lib.hid (And.intro y0 y1)
  clear g1
  go_wp2_with fail
  with_reducible refine (c1.out w1 (HW.out.below HB1.out) (HS.out.later HB1.out) (HU.out.later HB1.out)).mono ?_
  rintro e w2 ⟨rfl, g2⟩
  have HB2 := Lib.hid (HB1.out.trans (g2.mono HB1.out.size))
  have z0 := (g2.cell (p := ⟨w.heap.size, 0, none⟩) hs1).trans HY.out.1
  have z1 := (g2.cell (p := ⟨w.heap.size, 1, none⟩) hs1).trans HY.out.2
  clear g2 y0 y1
  go_wp2_with fail
  with_reducible refine (c2.out w2 (HS.out.later HB2.out) (HU.out.later HB2.out)).mono ?_
  rintro e w3 ⟨rfl, g3⟩
  have HB3 := Lib.hid (HB2.out.trans (g3.mono HB2.out.size))
  clear g3
  go_wp2
  go_ret
  exact ⟨rfl, HB3.out⟩
set_option maxHeartbeats 2000000 in
set_option maxRecDepth 100000 in
theorem Dd.lawRead_w (v : Value) (s : List Kn.C) (t : ByteArray) (w : World) (hw : Dd.T w) (hs : Dd.Cols w v s) (ht : t.size ≤ 140737488351232) :
    Calls Tryd.prog 4 #[v, .string t] w fun e w' => e = .returned (.bool true) ∧ Below w.heap.size w w' := by
  have c1 := Lib.hid fun wz hT h1 => Dd.read_c v s t wz hT h1 ht
  have c2 := Lib.hid fun wz (h1 : Dd.Cols wz v s) => Dd.rread_c v s t wz h1.1 ht
  generalize Dd.rd s t.data.toList = R at c1 c2
  obtain ⟨E, B, L⟩ := R
  unfold Dd.Got at c1 c2
  simp only at c1 c2
  have HS := Lib.hid hs
  have HW := Lib.hid hw
  clear hs ht hw
  go_enter Tryd.func4, Tryd.ntmps4
  go_wp2_with fail
  with_reducible refine (Dd.lives_c w HW.out).mono ?_
  rintro e w1 ⟨rfl, g1⟩
  have HB1 := Lib.hid g1
  clear g1
  go_wp2_with fail
  with_reducible refine (c1.out w1 (HW.out.below HB1.out) (HS.out.later HB1.out)).mono ?_
  rintro e w2 ⟨u2, rfl, hV2, _, g2⟩
  have HB2 := Lib.hid (HB1.out.trans (g2.mono HB1.out.size))
  obtain ⟨ua, uc, rfl, _⟩ := hV2.is
  obtain ⟨b0, b1, hA, hsz⟩ := Dd.boxed w2 B (.slice ua L.length uc)
  have HV3 := Lib.hid (hV2.later hA)
  have HB3 := Lib.hid (HB2.out.trans (hA.mono HB2.out.size))
  have HX := Lib.hid (And.intro b0 b1)
  clear g2 hA hV2 b0 b1 c1
  go_wp2_with fail
  generalize hwo : w2.alloc _ = w3 at hsz HX HV3 HB3 ⊢
  clear hwo
  with_reducible refine (c2.out w3 (HS.out.later HB3.out)).mono ?_
  rintro e w4 ⟨u4, rfl, hV4, _, g4⟩
  have HB4 := Lib.hid (HB3.out.trans (g4.mono HB3.out.size))
  have x0 := (g4.cell (p := ⟨w2.heap.size, 0, none⟩) (by simp [hsz])).trans HX.out.1
  have x1 := (g4.cell (p := ⟨w2.heap.size, 1, none⟩) (by simp [hsz])).trans HX.out.2
  have HV34 := Lib.hid (HV3.out.later g4)
  obtain ⟨va, vc, rfl, _⟩ := hV4.is
  obtain ⟨d0, d1, hA4, hsz4⟩ := Dd.boxed w4 B (.slice va L.length vc)
  have hs4 : w2.heap.size < w4.heap.size := by have := g4.size; omega
  have y0 := (hA4.cell (p := ⟨w2.heap.size, 0, none⟩) hs4).trans x0
  have y1 := (hA4.cell (p := ⟨w2.heap.size, 1, none⟩) hs4).trans x1
  have HB5 := Lib.hid (HB4.out.trans (hA4.mono HB4.out.size))
  have cs := Dd.rsame_c _ _ ⟨B, L⟩ ⟨B, L⟩ _ (HV34.out.later hA4) (hV4.later hA4)
  rw [Dd.same_self] at cs
  simp only at cs
  clear g4 hA4 hV4 x0 x1
  go_wp2_with fail
  generalize hwo : w4.alloc _ = w5 at cs HB5 ⊢
  clear hwo
  with_reducible refine cs.mono ?_
  rintro e w6 ⟨rfl, g6⟩
  have HB6 := Lib.hid (HB5.out.trans (g6.mono HB5.out.size))
  clear cs g6
  go_wp2
  go_ret
  exact ⟨rfl, HB6.out⟩
end Go.Proofs.YtccjfmjgkkpndaaDoor
