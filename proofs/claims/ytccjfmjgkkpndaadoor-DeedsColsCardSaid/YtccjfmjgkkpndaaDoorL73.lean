/-
  The law DeedsSame.
-/
import Derived.Test.YtccjfmjgkkpndaaDoorL72
import Derived.Lib.QuietBelow
import Derived.BigQuiet
namespace Go.Proofs.YtccjfmjgkkpndaaDoor
open Go.RowKit
open Ty (I64)
theorem Dd.sameV_eq {a b : Kn.V} (h : Kn.sameV a b = true) : a = b := by
  obtain ⟨an, ai, as_⟩ := a
  obtain ⟨bn, bi, bs⟩ := b
  unfold Kn.sameV at h
  simp only [Bool.and_eq_true, beq_iff_eq, ByteArray.toList_eq] at h
  obtain ⟨h1, h2, h3⟩ := h
  have : as_ = bs := by
    apply ByteArray.ext
    exact Array.toList_inj.1 h3
  rw [h1, h2, this]
theorem Dd.sameR_eq : ∀ a b : List Kn.V, Kn.sameR a b = true → a = b
  | [], [], _ => rfl
  | [], _ :: _, h => by cases h
  | _ :: _, [], h => by cases h
  | x :: a, y :: b, h => by
    simp only [Kn.sameR, Bool.and_eq_true] at h
    rw [Dd.sameV_eq h.1, Dd.sameR_eq a b h.2]
theorem Dd.same_eq {a b : Dd.D} (h : Dd.same a b = true) : a = b := by
  obtain ⟨ga, ra⟩ := a
  obtain ⟨gb, rb⟩ := b
  unfold Dd.same at h
  simp only [Bool.and_eq_true, beq_iff_eq] at h
  rw [h.1, Dd.sameR_eq _ _ h.2]
theorem Dd.bytes_same {s : List Kn.C} {a b : Dd.D} (ha : Dd.fitE s a = 0) (hb : Dd.fitE s b = 0) (ia : ∀ v ∈ a.row, I64 v.n) (ib : ∀ v ∈ b.row, I64 v.n) : ((Ty.S (Dd.enc s a)).toList == (Ty.S (Dd.enc s b)).toList) = Dd.same a b := by
  cases h : Dd.same a b
  · rw [beq_eq_false_iff_ne, ByteArray.toList_eq, ByteArray.toList_eq]
    intro e
    have := Dd.enc_inj ha hb ia ib e
    rw [this, Dd.same_self] at h
    cases h
  · rw [Dd.same_eq h]
    simp
theorem Dd.below_reg {w w' : World} (h : ∃ p : Regrown, w' = Sort.grow (redrawn w p.d) p.os) : Below w.heap.size w w' := by
  obtain ⟨p, rfl⟩ := h
  exact below_regrown w p.d p.os
set_option maxHeartbeats 4000000 in
set_option maxRecDepth 100000 in
theorem Dd.lawSame_w (v ua ub : Value) (s : List Kn.C) (a b : Dd.D) (w : World) (hw : Dd.T w) (hs : Dd.Cols w v s) (hua : Kn.Vals w ua a.row) (hub : Kn.Vals w ub b.row) (ia : ∀ x ∈ a.row, I64 x.n) (ib : ∀ x ∈ b.row, I64 x.n) :
    Calls Tryd.prog 7 #[v, .agg #[.bool a.gone, ua], .agg #[.bool b.gone, ub]] w fun e w' => e = .returned (.bool true) ∧ Below w.heap.size w w' := by
  have CA := Lib.hid fun wz hT h1 h2 => Dd.write_c v ua s a wz hT h1 h2 ia
  have CB := Lib.hid fun wz hT h1 h2 => Dd.write_c v ub s b wz hT h1 h2 ib
  have CS := Lib.hid fun wz hT h1 h2 => Dd.same_c ua ub a b wz hT h1 h2
  have CR := Lib.hid fun wz h1 h2 => Dd.rsame_c ua ub a b wz h1 h2
  have HS := Lib.hid hs
  have HUA := Lib.hid hua
  have HUB := Lib.hid hub
  have HW := Lib.hid hw
  have HBY := Lib.hid fun h1 h2 => Dd.bytes_same (s := s) (a := a) (b := b) h1 h2 ia ib
  have WAB := Lib.hid fun h => Dd.wV_bad (s := s) (d := a) h
  have WAO := Lib.hid fun h => Dd.wV_ok (s := s) (d := a) h
  have WBB := Lib.hid fun h => Dd.wV_bad (s := s) (d := b) h
  have WBO := Lib.hid fun h => Dd.wV_ok (s := s) (d := b) h
  have hG0 : Below w.heap.size w ((w.alloc (.cells #[.bool a.gone, ua] 26)).alloc (.cells #[.bool b.gone, ub] 26)) := ((Below.refl _ w).alloc (Nat.le_refl _) _).alloc (by simp) _
  have hb := (Below.refl _ (w.alloc (.cells #[.bool a.gone, ua] 26))).alloc (Nat.le_refl _) (.cells #[.bool b.gone, ub] 26)
  have x0 := (hb.cell (p := ⟨w.heap.size, 0, none⟩) (by simp)).trans (Kn.cell_new w #[.bool a.gone, ua] 26 0 _ rfl)
  have x1 := (hb.cell (p := ⟨w.heap.size, 1, none⟩) (by simp)).trans (Kn.cell_new w #[.bool a.gone, ua] 26 1 _ rfl)
  have y0 := Kn.cell_new (w.alloc (.cells #[.bool a.gone, ua] 26)) #[.bool b.gone, ub] 26 0 _ rfl
  have y1 := Kn.cell_new (w.alloc (.cells #[.bool a.gone, ua] 26)) #[.bool b.gone, ub] 26 1 _ rfl
  have hsz : ((w.alloc (.cells #[.bool a.gone, ua] 26)).alloc (.cells #[.bool b.gone, ub] 26)).heap.size = w.heap.size + 2 := by simp
  rw [World.size_alloc] at y0 y1
  simp only [List.getElem_toArray, List.getElem_cons_zero, List.getElem_cons_succ] at x0 x1 y0 y1
  have HG0 := Lib.hid hG0
  clear hG0 hb hs hua hub hw ia ib
  go_enter Tryd.func7, Tryd.ntmps7
  go_wp2_with fail
  generalize World.alloc _ _ = wo at x0 x1 y0 y1 HG0 hsz ⊢
  have HX := Lib.hid (And.intro (And.intro x0 x1) (And.intro y0 y1))
  have E0 := fun d os => cell_regrown x0 d os
  have E1 := fun d os => cell_regrown x1 d os
  have E2 := fun d os => cell_regrown y0 d os
  have E3 := fun d os => cell_regrown y1 d os
  have HR := Lib.hid fun (p : Regrown) => HG0.out.trans ((below_regrown wo p.d p.os).mono HG0.out.size)
  have CL1 : Hid (∀ p : Regrown, Calls Tryd.prog 9 #[] (Sort.grow (redrawn wo p.d) p.os) fun e w'' => e = .returned (.bool true) ∧ ∃ p : Regrown, w'' = Sort.grow (redrawn wo p.d) p.os) := Lib.hid fun p => Calls.regrown_of (Dd.lives_c _ (HW.out.below (HR.out p)))
  have CS1 : Hid (∀ p : Regrown, Calls Tryd.prog 15 #[.agg #[.bool a.gone, ua], .agg #[.bool b.gone, ub]] (Sort.grow (redrawn wo p.d) p.os) fun e w'' => e = .returned (.bool (Dd.same a b)) ∧ ∃ p : Regrown, w'' = Sort.grow (redrawn wo p.d) p.os) := Lib.hid fun p => Calls.regrown_of (CS.out _ (HW.out.below (HR.out p)) (HUA.out.later (HR.out p)) (HUB.out.later (HR.out p)))
  have CR1 : Hid (∀ p : Regrown, Calls Tryd.prog 14 #[.agg #[.bool a.gone, ua], .agg #[.bool b.gone, ub]] (Sort.grow (redrawn wo p.d) p.os) fun e w'' => e = .returned (.bool (Dd.same a b)) ∧ ∃ p : Regrown, w'' = Sort.grow (redrawn wo p.d) p.os) := Lib.hid fun p => Calls.regrown_of (CR.out _ (HUA.out.later (HR.out p)) (HUB.out.later (HR.out p)))
  generalize hSM : Dd.same a b = SM at CS1 CR1 CS CR HBY
  clear hSM CR x0 x1 y0 y1
  have hbb : (SM != SM) = false := by simp
  have hbe : (SM == SM) = true := by simp
  obtain ⟨ga, ra⟩ := a
  obtain ⟨gb, rb⟩ := b
  simp only at *
  refine wp_region_quiet_below (by kernel_rfl) (by kernel_rfl) ?_
  repeat (go_big_quiet_step (first | with_reducible exact CL1.out _ | with_reducible exact CS1.out _ | with_reducible exact CR1.out _))
  refine wpQuiet_nil ?_
  intro wq hw'
  have hbq := Dd.below_reg hw'
  have HBQ := Lib.hid (HG0.out.trans (hbq.mono HG0.out.size))
  have hsq : w.heap.size + 2 ≤ wq.heap.size := by have := hbq.size; omega
  have HXQ := Lib.hid (And.intro (And.intro ((hbq.cell (p := ⟨w.heap.size, 0, none⟩) (by simp [hsz])).trans HX.out.1.1) ((hbq.cell (p := ⟨w.heap.size, 1, none⟩) (by simp [hsz])).trans HX.out.1.2)) (And.intro ((hbq.cell (p := ⟨w.heap.size + 1, 0, none⟩) (by simp [hsz])).trans HX.out.2.1) ((hbq.cell (p := ⟨w.heap.size + 1, 1, none⟩) (by simp [hsz])).trans HX.out.2.2)))
  clear hw' hbq E0 E1 E2 E3 CL1 CS1 CR1 HR HX HG0 hsz
  obtain ⟨⟨x0, x1⟩, y0, y1⟩ := HXQ.out
  by_cases hA : Dd.fitE s ⟨ga, ra⟩ = 0
  · by_cases hB : Dd.fitE s ⟨gb, rb⟩ = 0
    · have hby := HBY.out hA hB
      have wa := WAO.out hA
      have wb := WBO.out hB
      generalize Ty.S (Dd.enc s ⟨ga, ra⟩) = SA at hby wa
      generalize Ty.S (Dd.enc s ⟨gb, rb⟩) = SB at hby wb
      clear hA hB
      have ca := CA.out wq (HW.out.below HBQ.out) (HS.out.later HBQ.out) (HUA.out.later HBQ.out)
      rw [wa] at ca
      go_wp2_with fail
      with_reducible refine ca.mono ?_
      rintro e w2 ⟨rfl, g2⟩
      have HB2 := Lib.hid (HBQ.out.trans (g2.mono HBQ.out.size))
      have HX2 := Lib.hid (And.intro (And.intro ((g2.cell (p := ⟨w.heap.size, 0, none⟩) (by show w.heap.size < _; omega)).trans x0) ((g2.cell (p := ⟨w.heap.size, 1, none⟩) (by show w.heap.size < _; omega)).trans x1)) (And.intro ((g2.cell (p := ⟨w.heap.size + 1, 0, none⟩) (by show w.heap.size + 1 < _; omega)).trans y0) ((g2.cell (p := ⟨w.heap.size + 1, 1, none⟩) (by show w.heap.size + 1 < _; omega)).trans y1)))
      have hs2 : w.heap.size + 2 ≤ w2.heap.size := by have := g2.size; omega
      clear ca g2 x0 x1 y0 y1
      obtain ⟨⟨x0, x1⟩, y0, y1⟩ := HX2.out
      have cb := CB.out w2 (HW.out.below HB2.out) (HS.out.later HB2.out) (HUB.out.later HB2.out)
      rw [wb] at cb
      go_wp2_with fail
      with_reducible refine cb.mono ?_
      rintro e w3 ⟨rfl, g3⟩
      have HB3 := Lib.hid (HB2.out.trans (g3.mono HB2.out.size))
      have z0 := (g3.cell (p := ⟨w.heap.size, 0, none⟩) (by show w.heap.size < _; omega)).trans x0
      have z1 := (g3.cell (p := ⟨w.heap.size, 1, none⟩) (by show w.heap.size < _; omega)).trans x1
      have z2 := (g3.cell (p := ⟨w.heap.size + 1, 0, none⟩) (by show w.heap.size + 1 < _; omega)).trans y0
      have z3 := (g3.cell (p := ⟨w.heap.size + 1, 1, none⟩) (by show w.heap.size + 1 < _; omega)).trans y1
      have cs := CS.out w3 (HW.out.below HB3.out) (HUA.out.later HB3.out) (HUB.out.later HB3.out)
      clear cb g3 x0 x1 y0 y1
      go_wp2_with fail
      with_reducible refine cs.mono ?_
      rintro e w4 ⟨rfl, g4⟩
      have HB4 := Lib.hid (HB3.out.trans (g4.mono HB3.out.size))
      clear cs g4
      go_wp2
      go_ret
      exact ⟨rfl, HB4.out⟩
    · have hEb : (Dd.fitE s ⟨gb, rb⟩ != 0) = true := by rw [bne_iff_ne]; exact hB
      have wa := WAO.out hA
      have wb := WBB.out hB
      generalize Dd.fitE s ⟨gb, rb⟩ = EB at wb hEb
      generalize Ty.S (Dd.enc s ⟨ga, ra⟩) = SA at wa
      clear hA hB HBY WAB WAO WBB WBO
      have ca := CA.out wq (HW.out.below HBQ.out) (HS.out.later HBQ.out) (HUA.out.later HBQ.out)
      rw [wa] at ca
      go_wp2_with fail
      with_reducible refine ca.mono ?_
      rintro e w2 ⟨rfl, g2⟩
      have HB2 := Lib.hid (HBQ.out.trans (g2.mono HBQ.out.size))
      have HX2 := Lib.hid (And.intro (And.intro ((g2.cell (p := ⟨w.heap.size, 0, none⟩) (by show w.heap.size < _; omega)).trans x0) ((g2.cell (p := ⟨w.heap.size, 1, none⟩) (by show w.heap.size < _; omega)).trans x1)) (And.intro ((g2.cell (p := ⟨w.heap.size + 1, 0, none⟩) (by show w.heap.size + 1 < _; omega)).trans y0) ((g2.cell (p := ⟨w.heap.size + 1, 1, none⟩) (by show w.heap.size + 1 < _; omega)).trans y1)))
      have hs2 : w.heap.size + 2 ≤ w2.heap.size := by have := g2.size; omega
      clear ca g2 x0 x1 y0 y1
      obtain ⟨⟨x0, x1⟩, y0, y1⟩ := HX2.out
      have cb := CB.out w2 (HW.out.below HB2.out) (HS.out.later HB2.out) (HUB.out.later HB2.out)
      rw [wb] at cb
      go_wp2_with fail
      with_reducible refine cb.mono ?_
      rintro e w3 ⟨rfl, g3⟩
      have HB3 := Lib.hid (HB2.out.trans (g3.mono HB2.out.size))
      clear cb g3 x0 x1 y0 y1
      go_wp2
      go_ret
      exact ⟨rfl, HB3.out⟩
  · have hEa : (Dd.fitE s ⟨ga, ra⟩ != 0) = true := by rw [bne_iff_ne]; exact hA
    have wa := WAB.out hA
    generalize Dd.fitE s ⟨ga, ra⟩ = EA at wa hEa
    have hwb : ∃ (SB : ByteArray) (EB : Int), Dd.wV s ⟨gb, rb⟩ = .tuple #[.string SB, .int .i64 EB] := ⟨_, _, rfl⟩
    obtain ⟨SB, EB, wb⟩ := hwb
    clear hA HBY WAB WAO WBB WBO
    have ca := CA.out wq (HW.out.below HBQ.out) (HS.out.later HBQ.out) (HUA.out.later HBQ.out)
    rw [wa] at ca
    go_wp2_with fail
    with_reducible refine ca.mono ?_
    rintro e w2 ⟨rfl, g2⟩
    have HB2 := Lib.hid (HBQ.out.trans (g2.mono HBQ.out.size))
    have HX2 := Lib.hid (And.intro (And.intro ((g2.cell (p := ⟨w.heap.size, 0, none⟩) (by show w.heap.size < _; omega)).trans x0) ((g2.cell (p := ⟨w.heap.size, 1, none⟩) (by show w.heap.size < _; omega)).trans x1)) (And.intro ((g2.cell (p := ⟨w.heap.size + 1, 0, none⟩) (by show w.heap.size + 1 < _; omega)).trans y0) ((g2.cell (p := ⟨w.heap.size + 1, 1, none⟩) (by show w.heap.size + 1 < _; omega)).trans y1)))
    have hs2 : w.heap.size + 2 ≤ w2.heap.size := by have := g2.size; omega
    clear ca g2 x0 x1 y0 y1
    obtain ⟨⟨x0, x1⟩, y0, y1⟩ := HX2.out
    have cb := CB.out w2 (HW.out.below HB2.out) (HS.out.later HB2.out) (HUB.out.later HB2.out)
    rw [wb] at cb
    go_wp2_with fail
    with_reducible refine cb.mono ?_
    rintro e w3 ⟨rfl, g3⟩
    have HB3 := Lib.hid (HB2.out.trans (g3.mono HB2.out.size))
    clear cb g3 x0 x1 y0 y1
    go_wp2
    go_ret
    exact ⟨rfl, HB3.out⟩
end Go.Proofs.YtccjfmjgkkpndaaDoor
