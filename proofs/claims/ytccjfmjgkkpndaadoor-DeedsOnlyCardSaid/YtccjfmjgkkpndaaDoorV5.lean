/-
  The document's answers for package deeds: Write.
-/
import Derived.Test.YtccjfmjgkkpndaaDoorV4
namespace Go.Proofs.YtccjfmjgkkpndaaDoor
open Go.RowKit
open Ty (I64)
open Ig (encI)
open Tx (encT)
theorem Dd.encV_way {c : Kn.C} {v : Kn.V} : Dd.encV c v = (if c.null = true then [Dd.flag v.null] else []) ++ (if v.null = true then [] else Dd.encP c v) := rfl
theorem Dd.encP_num {c : Kn.C} {v : Kn.V} (hk : c.k = 1) : Dd.encP c v = Ty.encU (Ty.zig v.n).toNat := by unfold Dd.encP; rw [if_pos hk]; rfl
theorem Dd.encP_str {c : Kn.C} {v : Kn.V} (hk : c.k ≠ 1) : Dd.encP c v = Ty.encU v.s.size ++ v.s.data.toList := by unfold Dd.encP encT; rw [if_neg hk, Ty.length_data]
set_option maxHeartbeats 4000000 in
set_option maxRecDepth 100000 in
/-- WRITE, as the document has it. -/
theorem Dd.rwrite_c (v u : Value) (s : List Kn.C) (d : Dd.D) (w : World) (hs : Kn.Cols w v s) (hu : Kn.Vals w u d.row) (hi : ∀ x ∈ d.row, I64 x.n) :
    Calls Tryd.prog 11 #[v, .agg #[.bool d.gone, u]] w fun e w' => e = .returned (Dd.wV s d) ∧ Below w.heap.size w w' := by
  have HS := Lib.hid hs
  have HU := Lib.hid hu
  have HI := Lib.hid hi
  have CF := Lib.hid fun wz h1 h2 => Dd.rFits_c v u s d wz h1 h2
  have HB0 : Hid (Below w.heap.size w (w.alloc (.cells #[.bool d.gone, u] 26))) := Lib.hid ((Below.refl _ _).alloc (Nat.le_refl _) _)
  have HX0 := Lib.hid (Kn.cell_new w #[.bool d.gone, u] 26 0 _ rfl)
  have HX1 := Lib.hid (Kn.cell_new w #[.bool d.gone, u] 26 1 _ rfl)
  simp only [List.getElem_toArray, List.getElem_cons_zero, List.getElem_cons_succ] at HX0 HX1
  have hsz : (w.alloc (.cells #[.bool d.gone, u] 26)).heap.size = w.heap.size + 1 := World.size_alloc ..
  obtain ⟨V, hV⟩ : ∃ V, V = Dd.wV s d := ⟨_, rfl⟩
  rw [← hV]
  have HV := Lib.hid hV
  clear hV hs hu hi
  by_cases hE : Dd.fitE s d = 0
  · have HE := Lib.hid (HV.out.trans (Dd.wV_ok hE))
    have FA := Lib.hid (Dd.fit_at hE)
    have PL : Hid (∀ k, k ≤ d.row.length → (Ty.S (Dd.pre s d.gone d.row k)).size ≤ 500) := Lib.hid fun k hk => Dd.pre_len hE hk
    have PA := Lib.hid (Dd.pre_all hE)
    rw [hE] at CF
    have hrl6 : d.row.length ≤ 6 := FA.out.1
    have FLG := Lib.hid fun b wz => Dd.rflag_c b wz
    obtain ⟨au, cu, rfl, h⟩ := HU.out.is
    have HUH := Lib.hid h
    obtain ⟨as_, cs, rfl, h2⟩ := HS.out.is
    have HSH := Lib.hid h2
    clear hE h h2
    go_enter Tryd.func11, Tryd.ntmps11
    go_wp2_with fail
    generalize hwo : w.alloc _ = wo at hsz HX0 HX1 HB0 ⊢
    clear hwo
    with_reducible refine (CF.out wo (HS.out.later HB0.out) (HU.out.later HB0.out)).mono ?_
    rintro e w1 ⟨rfl, g1⟩
    have HB1 := Lib.hid (HB0.out.trans (g1.mono HB0.out.size))
    have x0 := (g1.cell (p := ⟨w.heap.size, 0, none⟩) (by simp [hsz])).trans HX0.out
    have x1 := (g1.cell (p := ⟨w.heap.size, 1, none⟩) (by simp [hsz])).trans HX1.out
    have hs1 : w.heap.size < w1.heap.size := by have := g1.size; omega
    have HX11 := Lib.hid x1
    clear g1 CF
    go_wp2_with fail
    with_reducible refine (FLG.out d.gone _).mono ?_
    rintro e w2 ⟨rfl, h2⟩
    subst w2
    clear x0 x1
    go_wp2_with fail
    go_loopw [7, 8] (fun ov i wr => ∃ k : Nat, k ≤ d.row.length ∧ i = .int .i64 k ∧ ov = .string (Ty.S (Dd.pre s d.gone d.row k)) ∧ Below w1.heap.size w1 wr) (fun _ i _ => d.row.length - (intOf i).toNat)
    case atStart => exact ⟨0, by omega, rfl, rfl, Below.refl _ _⟩
    case round =>
      obtain ⟨k, hk, rfl, rfl, hBk⟩ := hrel
      have HB := Lib.hid hBk
      have hws := hBk.size
      have HBW := Lib.hid (HB1.out.trans (hBk.mono HB1.out.size))
      have x1 := (hBk.cell (p := ⟨w.heap.size, 1, none⟩) hs1).trans HX11.out
      clear hBk
      have hk0 : (0 : Int) ≤ (k : Int) := by omega
      have hP := PL.out k hk
      by_cases hl : k < d.row.length
      · have hsl : k < s.length := by have := FA.out.2.1; omega
        rcases HUH.out with h | ⟨b, o, rfl, hbl, hm, h⟩
        · exact absurd hl (by rw [h]; simp)
        · rcases HSH.out with h2 | ⟨b2, o2, rfl, hbl2, hm2, h2⟩
          · exact absurd hsl (by rw [h2]; simp)
          · obtain ⟨x, hx⟩ : ∃ x, d.row[k]? = some x := ⟨_, List.getElem?_eq_getElem hl⟩
            obtain ⟨c, hc⟩ : ∃ c, s[k]? = some c := ⟨_, List.getElem?_eq_getElem hsl⟩
            have hfx := FA.out.2.2 k c x hc hx
            have hA := (h k x hx).later HBW.out
            have hC := h2 k c hc
            obtain ⟨a0, a1, a2⟩ := hA
            have e0 := (HBW.out.cell (p := ⟨b2, o2 + k * 2, none⟩) hbl2).trans hC.1
            have e1 := (HBW.out.cell (p := ⟨b2, o2 + k * 2 + 1, none⟩) hbl2).trans hC.2
            have hbw : b2 < wr.heap.size := by have := HBW.out.size; omega
            have hkl : (k : Int) < (d.row.length : Int) := by omega
            have hks : (k : Int) < (s.length : Int) := by omega
            have HST := Lib.hid (Dd.pre_step (g := d.gone) hc hx)
            have HXI : Hid (I64 x.n) := Lib.hid (HI.out x (List.mem_of_getElem? hx))
            have h9 : (Ty.S (Ty.encU (Ty.zig x.n).toNat)).size ≤ 9 := Ty.encU_len9 _
            have h19 : ∀ b, (Ty.S [Dd.flag b]).size = 1 := fun _ => rfl
            have HNX : Hid (Kn.fits c x = true) := Lib.hid hfx
            have hx64 : c.k ≠ 1 → x.null = false → x.s.size ≤ 64 := fun hk hn => by
              have := (Dd.fits_str hk HNX.out hn).2
              rwa [Ty.length_data] at this
            have h73 : c.k ≠ 1 → x.null = false → (Ty.S (Ty.encU x.s.size ++ x.s.data.toList)).size ≤ 73 := fun hk hn => by
              have h1 := hx64 hk hn
              have h2 := Ty.encU_len9 x.s.size
              rw [Ty.size_S, List.length_append, Ty.length_data]
              omega
            have hk1 : (((c.k == 1) = true) ∧ c.k = 1) ∨ ((c.k == 1) = false ∧ c.k ≠ 1) := by
              by_cases h : c.k = 1
              · left; exact ⟨by rw [h]; rfl, h⟩
              · right; exact ⟨by rw [beq_eq_false_iff_ne]; exact h, h⟩
            clear h h2 hx hc hC hfx hm hm2
            generalize hpk : Dd.pre s d.gone d.row k = pk at HST hP ⊢
            clear hpk
            obtain ⟨P, hPP⟩ : ∃ P, P = Ty.S pk := ⟨_, rfl⟩
            rw [← hPP] at hP ⊢
            have HPP := Lib.hid hPP
            clear hPP
            cases hcn : c.null
            · have hn : x.null = false := by
                cases hn : x.null
                · rfl
                · rw [(Dd.fits_null HNX.out hn).2] at hcn; cases hcn
              rw [hcn] at e1
              rw [hn] at a0
              rcases hk1 with ⟨hk1, hk2⟩ | ⟨hk1, hk2⟩
              · have HEV : Hid (Ty.S (Dd.pre s d.gone d.row (k + 1)) = P ++ Ty.S (Ty.encU (Ty.zig x.n).toNat)) := Lib.hid (by rw [HST.out, HPP.out, Dd.S_add, Dd.encV_way, hcn, hn]; simp only [Bool.false_eq_true, if_false, List.nil_append]; rw [Dd.encP_num hk2])
                have cw := fun wz => Ty.rint_c x.n wz HXI.out
                obtain ⟨A, hA⟩ : ∃ A, A = Ty.S (Ty.encU (Ty.zig x.n).toNat) := ⟨_, rfl⟩
                unfold Ty.Str at cw
                rw [← hA] at h9 HEV cw
                have hA9 : A.size ≤ 73 := by omega
                have n1 : ¬ 9223372036854775807 < P.size + A.size := by omega
                clear hA
                clear hcn hn h9 h19 hx64 h73 hk2
                go_wp2_with fail
                with_reducible refine (cw _).mono ?_
                rintro e w4 ⟨rfl, g4⟩
                have HB4 := Lib.hid ((HB.out.alloc hws _).trans (g4.mono (Nat.le_trans hws (by rw [World.size_alloc]; omega))))
                clear cw g4
                go_wp2
                go_roundw
                case rel => exact ⟨k + 1, by omega, by simp, by rw [HEV.out], HB4.out⟩
                case measure => simp [intOf]; omega
              · have HEV : Hid (Ty.S (Dd.pre s d.gone d.row (k + 1)) = P ++ Ty.S (Ty.encU x.s.size ++ x.s.data.toList)) := Lib.hid (by rw [HST.out, HPP.out, Dd.S_add, Dd.encV_way, hcn, hn]; simp only [Bool.false_eq_true, if_false, List.nil_append]; rw [Dd.encP_str hk2])
                have cw := fun wz => Ty.rtext_c x.s (by have := hx64 hk2 hn; omega) wz
                have hA9 := h73 hk2 hn
                obtain ⟨A, hA⟩ : ∃ A, A = Ty.S (Ty.encU x.s.size ++ x.s.data.toList) := ⟨_, rfl⟩
                unfold Ty.Str at cw
                rw [← hA] at hA9 HEV cw
                have n1 : ¬ 9223372036854775807 < P.size + A.size := by omega
                clear hA
                clear hcn hn h9 h19 hx64 h73 hk2
                go_wp2_with fail
                with_reducible refine (cw _).mono ?_
                rintro e w4 ⟨rfl, g4⟩
                have HB4 := Lib.hid ((HB.out.alloc hws _).trans (g4.mono (Nat.le_trans hws (by rw [World.size_alloc]; omega))))
                clear cw g4
                go_wp2
                go_roundw
                case rel => exact ⟨k + 1, by omega, by simp, by rw [HEV.out], HB4.out⟩
                case measure => simp [intOf]; omega
            · rw [hcn] at e1
              cases hn : x.null
              · rw [hn] at a0
                rcases hk1 with ⟨hk1, hk2⟩ | ⟨hk1, hk2⟩
                · have HEV : Hid (Ty.S (Dd.pre s d.gone d.row (k + 1)) = P ++ Ty.S [Dd.flag false] ++ Ty.S (Ty.encU (Ty.zig x.n).toNat)) := Lib.hid (by rw [HST.out, HPP.out, Dd.S_add, Dd.S_add, Dd.encV_way, hcn, hn]; simp only [Bool.false_eq_true, if_false, if_true, List.append_assoc]; rw [Dd.encP_num hk2])
                  have n0 : ¬ 9223372036854775807 < P.size + (Ty.S [Dd.flag false]).size := by rw [h19]; omega
                  have hP1 : (P ++ Ty.S [Dd.flag false]).size ≤ 501 := by rw [ByteArray.size_append, h19]; omega
                  obtain ⟨F, hF⟩ : ∃ F, F = Ty.S [Dd.flag false] := ⟨_, rfl⟩
                  rw [← hF] at n0 hP1 HEV
                  have cf := fun wz => FLG.out false wz
                  rw [← hF] at cf
                  have cw := fun wz => Ty.rint_c x.n wz HXI.out
                  obtain ⟨A, hA⟩ : ∃ A, A = Ty.S (Ty.encU (Ty.zig x.n).toNat) := ⟨_, rfl⟩
                  unfold Ty.Str at cw
                  rw [← hA] at h9 HEV cw
                  have hA9 : A.size ≤ 73 := by omega
                  have n1 : ¬ 9223372036854775807 < (P ++ F).size + A.size := by omega
                  obtain ⟨Q, hQ⟩ : ∃ Q, Q = P ++ F := ⟨_, rfl⟩
                  have n2 : ¬ 9223372036854775807 < P.size + F.size + A.size := by rw [ByteArray.size_append] at n1; exact n1
                  clear hQ Q
                  clear hA
                  clear hcn hn h9 h19 hx64 h73 hk2 hF
                  go_wp2_with fail
                  with_reducible refine (cf _).mono ?_
                  rintro e w3 ⟨rfl, h3⟩
                  subst w3
                  clear cf
                  go_wp2_with fail
                  with_reducible refine (cw _).mono ?_
                  rintro e w4 ⟨rfl, g4⟩
                  have HB4 := Lib.hid ((HB.out.alloc hws _).trans (g4.mono (Nat.le_trans hws (by rw [World.size_alloc]; omega))))
                  clear cw g4
                  go_wp2
                  go_roundw
                  case rel => exact ⟨k + 1, by omega, by simp, by rw [HEV.out], HB4.out⟩
                  case measure => simp [intOf]; omega
                · have HEV : Hid (Ty.S (Dd.pre s d.gone d.row (k + 1)) = P ++ Ty.S [Dd.flag false] ++ Ty.S (Ty.encU x.s.size ++ x.s.data.toList)) := Lib.hid (by rw [HST.out, HPP.out, Dd.S_add, Dd.S_add, Dd.encV_way, hcn, hn]; simp only [Bool.false_eq_true, if_false, if_true, List.append_assoc]; rw [Dd.encP_str hk2])
                  have n0 : ¬ 9223372036854775807 < P.size + (Ty.S [Dd.flag false]).size := by rw [h19]; omega
                  have hP1 : (P ++ Ty.S [Dd.flag false]).size ≤ 501 := by rw [ByteArray.size_append, h19]; omega
                  obtain ⟨F, hF⟩ : ∃ F, F = Ty.S [Dd.flag false] := ⟨_, rfl⟩
                  rw [← hF] at n0 hP1 HEV
                  have cf := fun wz => FLG.out false wz
                  rw [← hF] at cf
                  have cw := fun wz => Ty.rtext_c x.s (by have := hx64 hk2 hn; omega) wz
                  have hA9 := h73 hk2 hn
                  obtain ⟨A, hA⟩ : ∃ A, A = Ty.S (Ty.encU x.s.size ++ x.s.data.toList) := ⟨_, rfl⟩
                  unfold Ty.Str at cw
                  rw [← hA] at hA9 HEV cw
                  have n1 : ¬ 9223372036854775807 < (P ++ F).size + A.size := by omega
                  obtain ⟨Q, hQ⟩ : ∃ Q, Q = P ++ F := ⟨_, rfl⟩
                  have n2 : ¬ 9223372036854775807 < P.size + F.size + A.size := by rw [ByteArray.size_append] at n1; exact n1
                  clear hQ Q
                  clear hA
                  clear hcn hn h9 h19 hx64 h73 hk2 hF
                  go_wp2_with fail
                  with_reducible refine (cf _).mono ?_
                  rintro e w3 ⟨rfl, h3⟩
                  subst w3
                  clear cf
                  go_wp2_with fail
                  with_reducible refine (cw _).mono ?_
                  rintro e w4 ⟨rfl, g4⟩
                  have HB4 := Lib.hid ((HB.out.alloc hws _).trans (g4.mono (Nat.le_trans hws (by rw [World.size_alloc]; omega))))
                  clear cw g4
                  go_wp2
                  go_roundw
                  case rel => exact ⟨k + 1, by omega, by simp, by rw [HEV.out], HB4.out⟩
                  case measure => simp [intOf]; omega
              · rw [hn] at a0
                have HEV : Hid (Ty.S (Dd.pre s d.gone d.row (k + 1)) = P ++ Ty.S [Dd.flag true]) := Lib.hid (by rw [HST.out, HPP.out, Dd.S_add, Dd.encV_way, hcn, hn]; simp)
                have n0 : ¬ 9223372036854775807 < P.size + (Ty.S [Dd.flag true]).size := by rw [h19]; omega
                have hP1 : (P ++ Ty.S [Dd.flag true]).size ≤ 501 := by rw [ByteArray.size_append, h19]; omega
                obtain ⟨F, hF⟩ : ∃ F, F = Ty.S [Dd.flag true] := ⟨_, rfl⟩
                rw [← hF] at n0 hP1 HEV
                have cf := fun wz => FLG.out true wz
                rw [← hF] at cf
                clear hcn hn h9 h19 hx64 h73 hk1 hF
                go_wp2_with fail
                with_reducible refine (cf _).mono ?_
                rintro e w3 ⟨rfl, h3⟩
                subst w3
                clear cf
                go_wp2
                go_roundw
                case rel => exact ⟨k + 1, by omega, by simp, by rw [HEV.out], HB.out.alloc hws _⟩
                case measure => simp [intOf]; omega
      · obtain rfl : k = d.row.length := by omega
        have hkl : ¬ (d.row.length : Int) < (d.row.length : Int) := by omega
        go_wp2
        go_ret2
        exact ⟨by rw [HE.out, ← PA.out]; rfl, HBW.out⟩
  · have HE := Lib.hid (HV.out.trans (Dd.wV_bad hE))
    have hEb : (Dd.fitE s d != 0) = true := by rw [bne_iff_ne]; exact hE
    generalize Dd.fitE s d = E at CF HE hEb
    clear hE
    go_enter Tryd.func11, Tryd.ntmps11
    go_wp2_with fail
    generalize hwo : w.alloc _ = wo at hsz HX0 HX1 HB0 ⊢
    clear hwo
    with_reducible refine (CF.out wo (HS.out.later HB0.out) (HU.out.later HB0.out)).mono ?_
    rintro e w1 ⟨rfl, g1⟩
    have HB1 := Lib.hid (HB0.out.trans (g1.mono HB0.out.size))
    clear g1 CF
    go_wp2
    go_ret2
    exact ⟨by rw [HE.out]; rfl, HB1.out⟩
end Go.Proofs.YtccjfmjgkkpndaaDoor
