/-
  The document's answers for package deeds: which deeds fit, which are the same; a truth's byte, written and read.
-/
import Derived.Test.YtccjfmjgkkpndaaDoorV1
import Derived.Test.YtccjfmjgkkpndaaDoorK8
import Derived.Test.YtccjfmjgkkpndaaDoorRX
import Derived.BigQuiet
namespace Go.Proofs.YtccjfmjgkkpndaaDoor
open Go.RowKit
theorem Dd.fitE_put {s : List Kn.C} {r : List Kn.V} : Dd.fitE s ⟨false, r⟩ = Kn.fitsE s r := rfl
theorem Dd.fitE_bad {s : List Kn.C} {r : List Kn.V} (h : Kn.right s = false) : Dd.fitE s ⟨true, r⟩ = 4 := by
  unfold Dd.fitE
  rw [if_pos rfl, if_neg (by rw [h]; decide)]
theorem Dd.fitE_len {s : List Kn.C} {r : List Kn.V} (h : Kn.right s = true) (hn : r.length ≠ 1) : Dd.fitE s ⟨true, r⟩ = 7 := by
  unfold Dd.fitE
  rw [if_pos rfl, if_pos h]
  match r, hn with
  | [], _ => rfl
  | [_], hn => exact absurd rfl hn
  | _ :: _ :: _, _ => rfl
theorem Dd.fitE_key {s : List Kn.C} {k : Kn.V} (h : Kn.right s = true) : Dd.fitE s ⟨true, [k]⟩ = Kn.keyE s k := by
  unfold Dd.fitE
  rw [if_pos rfl, if_pos h]
set_option maxHeartbeats 2000000 in
set_option maxRecDepth 100000 in
/-- FITS, as the document has it. -/
theorem Dd.rFits_c (v u : Value) (s : List Kn.C) (d : Dd.D) (w : World) (hs : Kn.Cols w v s) (hu : Kn.Vals w u d.row) :
    Calls Tryd.prog 22 #[v, .agg #[.bool d.gone, u]] w fun e w' => e = .returned (.int .i64 (Dd.fitE s d)) ∧ Below w.heap.size w w' := by
  obtain ⟨g, r⟩ := d
  simp only at hu ⊢
  have HS := Lib.hid hs
  have HU := Lib.hid hu
  have HB0 : Hid (Below w.heap.size w (w.alloc (.cells #[.bool g, u] 26))) := Lib.hid ((Below.refl _ _).alloc (Nat.le_refl _) _)
  have HX0 := Lib.hid (Kn.cell_new w #[.bool g, u] 26 0 _ rfl)
  have HX1 := Lib.hid (Kn.cell_new w #[.bool g, u] 26 1 _ rfl)
  simp only [List.getElem_toArray, List.getElem_cons_zero, List.getElem_cons_succ] at HX0 HX1
  have hsz : (w.alloc (.cells #[.bool g, u] 26)).heap.size = w.heap.size + 1 := World.size_alloc ..
  clear hs hu
  cases g
  · rw [Dd.fitE_put]
    go_enter Tryd.func22, Tryd.ntmps22
    go_wp2_with fail
    generalize hwo : w.alloc _ = wo at hsz HX0 HX1 HB0 ⊢
    clear hwo
    have cf := Kn.rfits_c v u s r wo (HS.out.later HB0.out) (HU.out.later HB0.out)
    have x0 := HX0.out
    have x1 := HX1.out
    go_wp2_with fail
    with_reducible refine cf.mono ?_
    rintro e w1 ⟨rfl, g1⟩
    have HB1 := Lib.hid (HB0.out.trans (g1.mono HB0.out.size))
    clear cf g1
    go_wp2
    go_ret
    exact ⟨rfl, HB1.out⟩
  · cases hR : Kn.right s
    · rw [Dd.fitE_bad hR]
      have cR := fun wz h => Kn.rRight_c v s wz h
      rw [hR] at cR
      go_enter Tryd.func22, Tryd.ntmps22
      go_wp2_with fail
      generalize hwo : w.alloc _ = wo at hsz HX0 HX1 HB0 ⊢
      clear hwo
      have cr := cR wo (HS.out.later HB0.out)
      have x0 := HX0.out
      clear cR
      go_wp2_with fail
      with_reducible refine cr.mono ?_
      rintro e w1 ⟨rfl, h1⟩
      subst w1
      go_wp2
      go_ret
      exact ⟨rfl, HB0.out⟩
    · have cR := fun wz h => Kn.rRight_c v s wz h
      rw [hR] at cR
      have HRT := Lib.hid hR
      clear hR
      by_cases hn : r.length = 1
      · obtain ⟨k, rfl⟩ : ∃ k, r = [k] := by
          match r, hn with
          | [k], _ => exact ⟨k, rfl⟩
        rw [Dd.fitE_key HRT.out]
        obtain ⟨a, cp, rfl, h⟩ := HU.out.is
        have h' := h
        rcases h' with h' | ⟨b, o, rfl, hbl, hm, hk⟩
        · cases h'
        · have hA := hk 0 k rfl
          rw [Nat.zero_mul, Nat.add_zero] at hA
          have HA := Lib.hid hA
          clear h hk hA hn
          have ck := fun wz h => Kn.rkey_c v s k wz h
          go_enter Tryd.func22, Tryd.ntmps22
          go_wp2_with fail
          generalize hwo : w.alloc _ = wo at hsz HX0 HX1 HB0 ⊢
          clear hwo
          have cr := cR wo (HS.out.later HB0.out)
          have ck1 := ck wo (HS.out.later HB0.out)
          obtain ⟨k0, k1, k2⟩ := HA.out.later HB0.out
          have x0 := HX0.out
          have x1 := HX1.out
          clear cR ck
          simp only [List.length_cons, List.length_nil] at x1 ⊢
          go_wp2_with fail
          with_reducible refine cr.mono ?_
          rintro e w1 ⟨rfl, h1⟩
          subst w1
          go_wp2_with fail
          with_reducible refine ck1.mono ?_
          rintro e w2 ⟨rfl, g2⟩
          have HB2 := Lib.hid (HB0.out.trans (g2.mono HB0.out.size))
          clear ck1 g2
          go_wp2
          go_ret
          exact ⟨rfl, HB2.out⟩
      · rw [Dd.fitE_len HRT.out hn]
        obtain ⟨a, cp, rfl, h⟩ := HU.out.is
        have hni : ((r.length : Int) != 1) = true := by rw [bne_iff_ne]; omega
        clear h hn
        go_enter Tryd.func22, Tryd.ntmps22
        go_wp2_with fail
        generalize hwo : w.alloc _ = wo at hsz HX0 HX1 HB0 ⊢
        clear hwo
        have cr := cR wo (HS.out.later HB0.out)
        have x0 := HX0.out
        have x1 := HX1.out
        clear cR
        go_wp2_with fail
        with_reducible refine cr.mono ?_
        rintro e w1 ⟨rfl, h1⟩
        subst w1
        go_wp2
        go_ret
        exact ⟨rfl, HB0.out⟩
set_option maxHeartbeats 1000000 in
theorem Dd.rflag_c (b : Bool) (w : World) : Calls Tryd.prog 23 #[.bool b] w fun e w' => e = .returned (.string (Ty.S [Dd.flag b])) ∧ w' = w := by
  cases b
  all_goals
    go_enter Tryd.func23, Tryd.ntmps23
    go_wp2
    go_ret
    exact ⟨rfl, rfl⟩
/-- Two deeds are equal in every field. -/
def Dd.same (a b : Dd.D) : Bool := (a.gone == b.gone) && Kn.sameR a.row b.row
set_option maxHeartbeats 2000000 in
set_option maxRecDepth 100000 in
/-- SAME, as the document has it. -/
theorem Dd.rsame_c (u v : Value) (a b : Dd.D) (w : World) (hu : Kn.Vals w u a.row) (hv : Kn.Vals w v b.row) :
    Calls Tryd.prog 14 #[.agg #[.bool a.gone, u], .agg #[.bool b.gone, v]] w fun e w' => e = .returned (.bool (Dd.same a b)) ∧ Below w.heap.size w w' := by
  obtain ⟨ga, ra⟩ := a
  obtain ⟨gb, rb⟩ := b
  simp only at hu hv ⊢
  unfold Dd.same
  simp only
  have hG0 : Below w.heap.size w ((w.alloc (.cells #[.bool ga, u] 26)).alloc (.cells #[.bool gb, v] 26)) := ((Below.refl _ w).alloc (Nat.le_refl _) _).alloc (by simp) _
  have hb := (Below.refl _ (w.alloc (.cells #[.bool ga, u] 26))).alloc (Nat.le_refl _) (.cells #[.bool gb, v] 26)
  have x0 := (hb.cell (p := ⟨w.heap.size, 0, none⟩) (by simp)).trans (Kn.cell_new w #[.bool ga, u] 26 0 _ rfl)
  have x1 := (hb.cell (p := ⟨w.heap.size, 1, none⟩) (by simp)).trans (Kn.cell_new w #[.bool ga, u] 26 1 _ rfl)
  have y0 := Kn.cell_new (w.alloc (.cells #[.bool ga, u] 26)) #[.bool gb, v] 26 0 _ rfl
  have y1 := Kn.cell_new (w.alloc (.cells #[.bool ga, u] 26)) #[.bool gb, v] 26 1 _ rfl
  rw [World.size_alloc] at y0 y1
  simp only [List.getElem_toArray, List.getElem_cons_zero, List.getElem_cons_succ] at x0 x1 y0 y1
  have cs := Kn.rsame_c u v ra rb _ (hu.later hG0) (hv.later hG0)
  have HX := Lib.hid (And.intro (And.intro x0 x1) (And.intro y0 y1))
  have HG0 := Lib.hid hG0
  generalize Kn.sameR ra rb = S at cs ⊢
  clear hG0 hb x0 x1 y0 y1 hu hv
  cases ga <;> cases gb
  all_goals
    go_enter Tryd.func14, Tryd.ntmps14
    go_wp2_with fail
  · generalize World.alloc _ _ = wo at HX HG0 cs ⊢
    obtain ⟨⟨x0, x1⟩, y0, y1⟩ := HX.out
    go_wp2_with fail
    with_reducible refine cs.mono ?_
    rintro e w1 ⟨rfl, n, h1⟩
    subst w1
    go_wp2
    go_ret
    exact ⟨by simp, Kn.below_drewN HG0.out n⟩
  · generalize World.alloc _ _ = wo at HX HG0 cs ⊢
    obtain ⟨⟨x0, x1⟩, y0, y1⟩ := HX.out
    go_wp2
    go_ret
    exact ⟨by simp, HG0.out⟩
  · generalize World.alloc _ _ = wo at HX HG0 cs ⊢
    obtain ⟨⟨x0, x1⟩, y0, y1⟩ := HX.out
    go_wp2
    go_ret
    exact ⟨by simp, HG0.out⟩
  · generalize World.alloc _ _ = wo at HX HG0 cs ⊢
    obtain ⟨⟨x0, x1⟩, y0, y1⟩ := HX.out
    go_wp2_with fail
    with_reducible refine cs.mono ?_
    rintro e w1 ⟨rfl, n, h1⟩
    subst w1
    go_wp2
    go_ret
    exact ⟨by simp, Kn.below_drewN HG0.out n⟩
end Go.Proofs.YtccjfmjgkkpndaaDoor
