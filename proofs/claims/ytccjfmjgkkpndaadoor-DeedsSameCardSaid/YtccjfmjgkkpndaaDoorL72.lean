/-
  The laws of package deeds: DeedsBack, DeedsOnly.
-/
import Derived.Test.YtccjfmjgkkpndaaDoorL71
namespace Go.Proofs.YtccjfmjgkkpndaaDoor
open Go.RowKit
open Ty (I64)
theorem Dd.enc_len {s : List Kn.C} {d : Dd.D} (h : Dd.fitE s d = 0) : (Dd.enc s d).length ≤ 500 := by
  rw [← Dd.pre_all h]
  exact Dd.pre_len h (Nat.le_refl _)
set_option maxHeartbeats 2000000 in
set_option maxRecDepth 100000 in
theorem Dd.lawBack_w (v u : Value) (s : List Kn.C) (d : Dd.D) (w : World) (hw : Dd.T w) (hs : Dd.Cols w v s) (hu : Kn.Vals w u d.row) (hi : ∀ x ∈ d.row, I64 x.n) :
    Calls Tryd.prog 5 #[v, .agg #[.bool d.gone, u]] w fun e w' => e = .returned (.bool true) ∧ Below w.heap.size w w' := by
  have c1 := Lib.hid fun wz hT h1 h2 => Dd.write_c v u s d wz hT h1 h2 hi
  have HS := Lib.hid hs
  have HU := Lib.hid hu
  have HW := Lib.hid hw
  obtain ⟨b0, b1, hA, hsz⟩ := Dd.boxed w d.gone u
  have HA := Lib.hid hA
  have HX := Lib.hid (And.intro b0 b1)
  obtain ⟨ua, uc, rfl, _⟩ := hu.is
  clear hs hu hw b0 b1 hA
  by_cases hE : Dd.fitE s d = 0
  · have c2 : Hid (∀ wz, Dd.T wz → Dd.Cols wz v s → Calls Tryd.prog 12 #[v, .string (Ty.S (Dd.enc s d))] wz (Dd.Got wz (0, d))) := Lib.hid fun wz hT h1 => by
      have := Dd.read_c v s (Ty.S (Dd.enc s d)) wz hT h1 (by rw [Ty.size_S]; have := Dd.enc_len hE; omega)
      rwa [Ty.data_S, Dd.rd_enc hE hi] at this
    rw [Dd.wV_ok hE] at c1
    generalize Ty.S (Dd.enc s d) = S at c1 c2
    obtain ⟨B, L⟩ := d
    unfold Dd.Got at c2
    simp only at c1 c2 HU HX HA hsz ⊢
    clear hE hi
    go_enter Tryd.func5, Tryd.ntmps5
    go_wp2_with fail
    generalize hwo : w.alloc _ = wo at hsz HX HA ⊢
    clear hwo
    with_reducible refine (Dd.lives_c _ (HW.out.below HA.out)).mono ?_
    rintro e w1 ⟨rfl, g1⟩
    have HB1 := Lib.hid (HA.out.trans (g1.mono HA.out.size))
    have y0 := (g1.cell (p := ⟨w.heap.size, 0, none⟩) (by simp [hsz])).trans HX.out.1
    have y1 := (g1.cell (p := ⟨w.heap.size, 1, none⟩) (by simp [hsz])).trans HX.out.2
    have hs1 : w.heap.size < w1.heap.size := by have := g1.size; omega
    have HY := Lib.hid (And.intro y0 y1)
    clear g1
    go_wp2_with fail
    with_reducible refine (c1.out w1 (HW.out.below HB1.out) (HS.out.later HB1.out) (HU.out.later HB1.out)).mono ?_
    rintro e w2 ⟨rfl, g2⟩
    have HB2 := Lib.hid (HB1.out.trans (g2.mono HB1.out.size))
    have HZ := Lib.hid (And.intro ((g2.cell (p := ⟨w.heap.size, 0, none⟩) hs1).trans HY.out.1) ((g2.cell (p := ⟨w.heap.size, 1, none⟩) hs1).trans HY.out.2))
    have hs2 : w.heap.size < w2.heap.size := by have := g2.size; omega
    clear g2 y0 y1
    go_wp2_with fail
    with_reducible refine (c2.out w2 (HW.out.below HB2.out) (HS.out.later HB2.out)).mono ?_
    rintro e w3 ⟨u3, rfl, hV3, _, g3⟩
    have HB3 := Lib.hid (HB2.out.trans (g3.mono HB2.out.size))
    obtain ⟨va, vc, rfl, _⟩ := hV3.is
    obtain ⟨d0, d1, hA3, hsz3⟩ := Dd.boxed w3 B (.slice va L.length vc)
    have hs3 : w.heap.size < w3.heap.size := by have := g3.size; omega
    have y0 := ((hA3.cell (p := ⟨w.heap.size, 0, none⟩) hs3).trans (g3.cell (p := ⟨w.heap.size, 0, none⟩) hs2)).trans HZ.out.1
    have y1 := ((hA3.cell (p := ⟨w.heap.size, 1, none⟩) hs3).trans (g3.cell (p := ⟨w.heap.size, 1, none⟩) hs2)).trans HZ.out.2
    have HB4 := Lib.hid (HB3.out.trans (hA3.mono HB3.out.size))
    have cs := Dd.rsame_c _ _ ⟨B, L⟩ ⟨B, L⟩ _ (hV3.later hA3) (HU.out.later HB4.out)
    rw [Dd.same_self] at cs
    simp only at cs
    simp only [Int.natCast_zero]
    clear g3 hA3 hV3
    go_wp2_with fail
    generalize hwo : w3.alloc _ = w4 at cs HB4 ⊢
    clear hwo
    with_reducible refine cs.mono ?_
    rintro e w5 ⟨rfl, g5⟩
    have HB5 := Lib.hid (HB4.out.trans (g5.mono HB4.out.size))
    clear cs g5
    go_wp2
    go_ret
    exact ⟨rfl, HB5.out⟩
  · rw [Dd.wV_bad hE] at c1
    have hem : Ty.S [] = (⟨#[]⟩ : ByteArray) := rfl
    have hEb : (Dd.fitE s d != 0) = true := by rw [bne_iff_ne]; exact hE
    rw [hem] at c1
    generalize Dd.fitE s d = E at c1 hEb
    clear hE hi hem
    go_enter Tryd.func5, Tryd.ntmps5
    go_wp2_with fail
    generalize hwo : w.alloc _ = wo at hsz HX HA ⊢
    clear hwo
    with_reducible refine (Dd.lives_c _ (HW.out.below HA.out)).mono ?_
    rintro e w1 ⟨rfl, g1⟩
    have HB1 := Lib.hid (HA.out.trans (g1.mono HA.out.size))
    have y0 := (g1.cell (p := ⟨w.heap.size, 0, none⟩) (by simp [hsz])).trans HX.out.1
    have y1 := (g1.cell (p := ⟨w.heap.size, 1, none⟩) (by simp [hsz])).trans HX.out.2
    clear g1
    go_wp2_with fail
    with_reducible refine (c1.out w1 (HW.out.below HB1.out) (HS.out.later HB1.out) (HU.out.later HB1.out)).mono ?_
    rintro e w2 ⟨rfl, g2⟩
    have HB2 := Lib.hid (HB1.out.trans (g2.mono HB1.out.size))
    clear g2
    go_wp2
    go_ret
    exact ⟨rfl, HB2.out⟩
set_option maxHeartbeats 2000000 in
set_option maxRecDepth 100000 in
theorem Dd.lawOnly_w (v : Value) (s : List Kn.C) (t : ByteArray) (w : World) (hw : Dd.T w) (hs : Dd.Cols w v s) (ht : t.size ≤ 140737488351232) :
    Calls Tryd.prog 6 #[v, .string t] w fun e w' => e = .returned (.bool true) ∧ Below w.heap.size w w' := by
  have c1 := Lib.hid fun wz hT h1 => Dd.read_c v s t wz hT h1 ht
  have HS := Lib.hid hs
  have HW := Lib.hid hw
  clear hs hw
  by_cases hE : (Dd.rd s t.data.toList).1 = 0
  · obtain ⟨e1, e2, e3⟩ := Dd.enc_rd hE
    have hlen := Dd.enc_len e1
    rw [e2, Ty.length_data] at hlen
    obtain ⟨hne, hless⟩ := Dd.less hE
    have hmore := Dd.more hE 0
    have c2 : Hid (∀ (u : Value) wz, Dd.T wz → Dd.Cols wz v s → Kn.Vals wz u (Dd.rd s t.data.toList).2.row → Calls Tryd.prog 10 #[v, .agg #[.bool (Dd.rd s t.data.toList).2.gone, u]] wz fun e w' => e = .returned (.tuple #[.string t, .int .i64 0]) ∧ Below wz.heap.size wz w') := Lib.hid fun u wz hT h1 h2 => by
      have := Dd.write_c v u s (Dd.rd s t.data.toList).2 wz hT h1 h2 e3
      rwa [Dd.wV_ok e1, e2, Ty.S_data] at this
    have c3 : Hid (∀ wz, Dd.T wz → Dd.Cols wz v s → Calls Tryd.prog 12 #[v, .string (t ++ ⟨#[0]⟩)] wz (Dd.Got wz (5, ⟨false, []⟩))) := Lib.hid fun wz hT h1 => by
      have e : t ++ ⟨#[0]⟩ = Ty.S (t.data.toList ++ [0]) := by
        rw [← Dd.S_add, Ty.S_data]
        rfl
      have := Dd.read_c v s (t ++ ⟨#[0]⟩) wz hT h1 (by rw [e, Ty.size_S, List.length_append, Ty.length_data]; simp; omega)
      rw [e, Ty.data_S] at this
      rw [e]
      have h5 : Dd.rd s (t.data.toList ++ [0]) = (5, ⟨false, []⟩) := Prod.ext hmore (Dd.rd_bad (by rw [hmore]; decide))
      rwa [h5] at this
    obtain ⟨q, hq⟩ : ∃ q, q = t.size - 1 := ⟨_, rfl⟩
    have hpos : 0 < t.size := by
      rw [← Ty.length_data]
      exact List.length_pos_iff.2 hne
    have hex : t.extract 0 q = Ty.S t.data.toList.dropLast := by
      rw [Ty.extract_S, List.drop_zero, hq, Nat.sub_zero, List.dropLast_eq_take, Ty.length_data]
    obtain ⟨E4, hE4⟩ : ∃ E4, E4 = (Dd.rd s t.data.toList.dropLast).1 := ⟨_, rfl⟩
    have c4 : Hid (∀ wz, Dd.T wz → Dd.Cols wz v s → Calls Tryd.prog 12 #[v, .string (t.extract 0 q)] wz (Dd.Got wz (E4, ⟨false, []⟩))) := Lib.hid fun wz hT h1 => by
      have := Dd.read_c v s (t.extract 0 q) wz hT h1 (by rw [hex, Ty.size_S, List.length_dropLast, Ty.length_data]; omega)
      rw [hex, Ty.data_S] at this
      rw [hex]
      have h5 : Dd.rd s t.data.toList.dropLast = (E4, ⟨false, []⟩) := Prod.ext hE4.symm (Dd.rd_bad hless)
      rwa [h5] at this
    have hE4b : ((E4 : Int) != 0) = true := by rw [bne_iff_ne]; omega
    have hself : (t.toList == t.toList) = true := by simp
    have hti : ((t.size : Int) - 1) = (q : Int) := by omega
    have hq0 : (0 : Int) ≤ (q : Int) := by omega
    have hqt : (q : Int) ≤ (t.size : Int) := by omega
    have hn0 : ¬ 9223372036854775807 < t.size + (⟨#[0]⟩ : ByteArray).size := by have e : (⟨#[0]⟩ : ByteArray).size = 1 := rfl; omega
    generalize Dd.rd s t.data.toList = R at c1 c2 hE
    obtain ⟨E, B, L⟩ := R
    simp only at hE
    subst hE
    unfold Dd.Got at c1 c3 c4
    simp only at c1 c2 c3 c4
    clear e1 e2 e3 hne hless hmore hex hE4 hq hpos
    go_enter Tryd.func6, Tryd.ntmps6
    go_wp2_with fail
    with_reducible refine (Dd.lives_c w HW.out).mono ?_
    rintro e w1 ⟨rfl, g1⟩
    have HB1 := Lib.hid g1
    clear g1
    go_wp2_with fail
    with_reducible refine (c1.out w1 (HW.out.below HB1.out) (HS.out.later HB1.out)).mono ?_
    rintro e w2 ⟨u2, rfl, hV2, _, g2⟩
    have HB2 := Lib.hid (HB1.out.trans (g2.mono HB1.out.size))
    obtain ⟨ua, uc, rfl, _⟩ := hV2.is
    obtain ⟨b0, b1, hA, hsz⟩ := Dd.boxed w2 B (.slice ua L.length uc)
    have HV3 := Lib.hid (hV2.later hA)
    have HB3 := Lib.hid (HB2.out.trans (hA.mono HB2.out.size))
    simp only [Int.natCast_zero]
    clear g2 hA hV2 c1
    go_wp2_with fail
    generalize hwo : w2.alloc _ = w3 at hsz b0 b1 HV3 HB3 ⊢
    clear hwo
    with_reducible refine (c2.out _ w3 (HW.out.below HB3.out) (HS.out.later HB3.out) HV3.out).mono ?_
    rintro e w4 ⟨rfl, g4⟩
    have HB4 := Lib.hid (HB3.out.trans (g4.mono HB3.out.size))
    clear g4 b0 b1
    go_wp2_with fail
    with_reducible refine (c3.out w4 (HW.out.below HB4.out) (HS.out.later HB4.out)).mono ?_
    rintro e w5 ⟨u5, rfl, hV5, _, g5⟩
    have HB5 := Lib.hid (HB4.out.trans (g5.mono HB4.out.size))
    obtain ⟨va, vc, rfl, _⟩ := hV5.is
    obtain ⟨_, _, hA5, hsz5⟩ := Dd.boxed w5 false (.slice va 0 vc)
    have HB6 := Lib.hid (HB5.out.trans (hA5.mono HB5.out.size))
    simp only [List.length_nil]
    clear g5 hV5 hA5
    go_wp2_with fail
    generalize hwo : w5.alloc _ = w6 at hsz5 HB6 ⊢
    clear hwo
    with_reducible refine (c4.out w6 (HW.out.below HB6.out) (HS.out.later HB6.out)).mono ?_
    rintro e w7 ⟨u7, rfl, hV7, _, g7⟩
    have HB7 := Lib.hid (HB6.out.trans (g7.mono HB6.out.size))
    obtain ⟨xa, xc, rfl, _⟩ := hV7.is
    simp only [List.length_nil]
    clear g7 hV7
    have HB8 := Lib.hid (HB7.out.alloc HB7.out.size (.cells #[.bool false, .slice xa 0 xc] 26))
    go_wp2
    go_ret
    exact ⟨rfl, HB8.out⟩
  · have hbad := Dd.rd_bad hE
    generalize Dd.rd s t.data.toList = R at c1 hE hbad
    obtain ⟨E, D⟩ := R
    simp only at hE hbad
    subst hbad
    have hEb : ((E : Int) != 0) = true := by rw [bne_iff_ne]; omega
    unfold Dd.Got at c1
    simp only at c1
    clear hE
    go_enter Tryd.func6, Tryd.ntmps6
    go_wp2_with fail
    with_reducible refine (Dd.lives_c w HW.out).mono ?_
    rintro e w1 ⟨rfl, g1⟩
    have HB1 := Lib.hid g1
    clear g1
    go_wp2_with fail
    with_reducible refine (c1.out w1 (HW.out.below HB1.out) (HS.out.later HB1.out)).mono ?_
    rintro e w2 ⟨u2, rfl, hV2, _, g2⟩
    have HB2 := Lib.hid (HB1.out.trans (g2.mono HB1.out.size))
    obtain ⟨ua, uc, rfl, _⟩ := hV2.is
    obtain ⟨b0, b1, hA, hsz⟩ := Dd.boxed w2 false (.slice ua 0 uc)
    have HB3 := Lib.hid (HB2.out.trans (hA.mono HB2.out.size))
    simp only [List.length_nil]
    clear g2 hA hV2 c1
    go_wp2
    go_ret
    exact ⟨rfl, HB3.out⟩
end Go.Proofs.YtccjfmjgkkpndaaDoor
