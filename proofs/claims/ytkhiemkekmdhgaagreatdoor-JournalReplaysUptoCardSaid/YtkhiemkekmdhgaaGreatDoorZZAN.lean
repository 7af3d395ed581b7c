import Derived.Test.YtkhiemkekmdhgaaGreatDoorZZAM
namespace Go.Proofs.YtkhiemkekmdhgaaGreatDoor
open Go.RowKit
theorem Sk.put_at {L : List Sk.E} {x : Sk.E} {A q : Nat} (hA : Sk.at_ Sk.ke L (Sk.ke x) = A) (hq : q = if Sk.there Sk.ke L (Sk.ke x) = true then A + 1 else A) : Sk.put Sk.ke L x = L.take A ++ [x] ++ L.drop q := by
 unfold Sk.put
 rw [hA, hq, List.append_assoc]
 rfl
theorem Sk.own_some {base : Nat} {w : World} {v : Value} {L : List Sk.E} (h : Dk.Own 26 2 Sk.E.enc base w v L) (hl : L ≠ []) : ∃ g n c, v = .slice (some ⟨g, 0, none⟩) n c := by
 rcases h.form with ⟨_, e⟩ | ⟨g, c, e, _⟩
 ·exact absurd e hl
 ·exact ⟨g, _, c, e⟩
theorem Sk.RL.put {S : Nat → Prop} {B : Nat} {w W : World} {p : Nat} {v u : Value} {L M : List Sk.E} {base : Nat} (h : Sk.RL S B w p v L) (g : Below w.heap.size w W) (hbase : w.heap.size ≤ base) (ho : Dk.Own 26 2 Sk.E.enc base W u M) (hr : ∀ y ∈ M, Sk.Row B w y.rv y.row ∧ y.row ≠ []) :
 Sk.RL (Sk.More S w (W.setCell ⟨p, 0, none⟩ u)) B (W.setCell ⟨p, 0, none⟩ u) p u M ∧ Sk.Off S w (W.setCell ⟨p, 0, none⟩ u) := by
 have hp : p < w.heap.size := h.alive p h.mine
 have hW := h.kept g
 have hsz : (W.setCell ⟨p, 0, none⟩ u).heap.size = W.heap.size := by simp
 have hoth : ∀ k, k ≠ p → (W.setCell ⟨p, 0, none⟩ u).heap[k]? = W.heap[k]? := fun k hk => Below.heap_setCell _ _ _ _ hk
 have hBW : Below B w W := g.mono h.le
 have hB2 : Below B w (W.setCell ⟨p, 0, none⟩ u) := hBW.setCell (p := ⟨p, 0, none⟩) (h.from_ p h.mine) _
 refine ⟨⟨?_, World.ownsRow.mono (ho.same fun b hb => hoth b ?_) (Nat.zero_le _), fun b hb => ?_, .inl h.mine, fun b hb => ?_, fun b hb => ?_, fun y hy => ⟨(hr y hy).1.below hB2, (hr y hy).2⟩⟩, ?_⟩
 ·rw [heap_setCell_same W p 0 _ _ u hW.blk]
  rfl
 ·have := ho.base_le b hb; omega
 ·have h1 := ho.base_le b hb
  have h2 := ho.lt b hb
  exact .inr ⟨by omega, by rw [hsz]; exact h2⟩
 ·rcases hb with hb | hb
  ·have := h.alive b hb; have := g.size; rw [hsz]; omega
  ·exact hb.2
 ·rcases hb with hb | hb
  ·exact h.from_ b hb
  ·have := h.le; have := hb.1; omega
 ·refine ⟨g.os, g.tape, g.output, by rw [hsz]; exact g.size, fun k hk hn => ?_⟩
  exact (hoth k (fun e => hn (by rw [e]; exact h.mine))).trans (g.block k hk)
set_option linter.unusedSimpArgs false in
set_option maxHeartbeats 8000000 in
set_option maxRecDepth 100000 in
theorem Sk.rput_c {S : Nat → Prop} {B : Nat} {w : World} {p : Nat} {v : Value} {L : List Sk.E} (h : Sk.RL S B w p v L) (x : Sk.E) (hx : Sk.Row B w x.rv x.row) (hne : x.row ≠ []) (hl : L.length ≤ 100000) :
 Calls Tryz.prog 33 #[.pointer (some ⟨p, 0, none⟩), .agg #[.bool x.gone, x.rv]] w fun e w' => e = .returned (.bool true) ∧ (∃ v', Sk.RL (Sk.More S w w') B w' p v' (Sk.put Sk.ke L x)) ∧ Sk.Off S w w' := by
 have HXR := Lib.hid (And.intro hx hne)
 obtain ⟨ra, rc, hrv, hrm, hrz, hr⟩ := hx
 rcases hr with hr | ⟨rb, ro, rfl, hrb, _, hr⟩
 ·exact absurd hr hne
 obtain ⟨rn, hrn⟩ : ∃ rn, rn = x.row.length := ⟨_, rfl⟩
 rw [← hrn] at hrv hrm
 obtain ⟨k, r, hkr⟩ : ∃ k r, x.row = k :: r := List.exists_cons_of_ne_nil hne
 have hke : Sk.ke x = k := by unfold Sk.ke Sk.kd Sk.E.d; rw [hkr]; rfl
 have hpos : 0 < rn := by rw [hrn, hkr]; simp
 have hkz : Kn.Z (Sk.ke x) := by rw [hke]; exact hrz k (by rw [hkr]; exact List.mem_cons_self)
 have hkat : Kn.At w rb ro (Sk.ke x) := by rw [hke]; have := hr 0 k (by rw [hkr]; rfl); simpa using this
 obtain ⟨wb, hwb⟩ : ∃ wb, wb = w.alloc (.cells #[.bool x.gone, .slice (some ⟨rb, ro, none⟩) rn rc] 26) := ⟨_, rfl⟩
 have hb0 : Below w.heap.size w wb := by rw [hwb]; exact (Below.refl _ w).alloc (Nat.le_refl _) _
 have hsb : wb.heap.size = w.heap.size + 1 := by rw [hwb, World.size_alloc]
 have d0 : wb.cell? ⟨w.heap.size, 0, none⟩ = some (.bool x.gone) := by rw [hwb]; exact Kn.cell_new w _ _ 0 _ rfl
 have d1 : wb.cell? ⟨w.heap.size, 1, none⟩ = some (.slice (some ⟨rb, ro, none⟩) rn rc) := by rw [hwb]; exact Kn.cell_new w _ _ 1 _ rfl
 have hR := h.kept hb0
 have cp := Sk.place_c hR (Sk.ke x) hkz (by omega)
 obtain ⟨k0, k1, k2⟩ := hkat.later hb0
 rw [hwb] at k0 k1 k2
 unfold Kn.V.val at cp
 obtain ⟨A, hA⟩ : ∃ A, A = Sk.at_ Sk.ke L (Sk.ke x) := ⟨_, rfl⟩
 have hAl : A ≤ L.length := by rw [hA]; exact Sk.at_le L _
 rw [← hA] at cp
 have hrp : (0 : Int) < (rn : Int) := by omega
 have hrne : ((rn : Int) == 0) = false := by rw [beq_eq_false_iff_ne]; omega
 obtain ⟨a, c, hv⟩ := h.slice
 have HD : Hid (∀ W, Below wb.heap.size wb W → W.cell? ⟨p, 0, none⟩ = some (.slice a L.length c) ∧ W.cell? ⟨w.heap.size, 0, none⟩ = some (.bool x.gone) ∧ W.cell? ⟨w.heap.size, 1, none⟩ = some (.slice (some ⟨rb, ro, none⟩) rn rc)) := Lib.hid fun W g => by
  refine ⟨?_, (g.cell (p := ⟨w.heap.size, 0, none⟩) (by show w.heap.size < _; omega)).trans d0, (g.cell (p := ⟨w.heap.size, 1, none⟩) (by show w.heap.size < _; omega)).trans d1⟩
  rw [cell_of_row W p _ _ _ _ (hR.kept g).blk, hv]
  rfl
 have HR := Lib.hid hR
 have HB0 := Lib.hid hb0
 cases hth : Sk.there Sk.ke L (Sk.ke x) with
 | false =>
   have HP : Hid (Sk.put Sk.ke L x = L.take A ++ [x] ++ L.drop A) := Lib.hid (Sk.put_at hA.symm (by rw [hth]; rfl))
   rw [hth] at cp
   generalize Sk.put Sk.ke L x = PT at HP ⊢
   rw [hrv]
   clear hrm hrz hr hne hrn hkr hke hkz hkat hR hA hth
   go_enter Tryz.func33, Tryz.ntmps33
   go_wp2_with fail
   rw [← hwb]
   clear hwb
   with_reducible refine cp.mono ?_
   rintro e w1 ⟨rfl, g1⟩
   obtain ⟨c0, c1, c2⟩ := HD.out w1 g1
   have G1 := Lib.hid g1
   clear cp g1 d0 d1 k0 k1 k2
   have HD1 : Hid (Below wb.heap.size wb w1.drew) := Lib.hid ⟨G1.out.os, G1.out.tape, G1.out.output, G1.out.size, G1.out.block⟩
   have hA0 : (0 : Int) ≤ (A : Int) := by omega
   have hAi : (A : Int) ≤ (L.length : Int) := by omega
   rcases h.own.form with ⟨hv0, hL0⟩ | ⟨g, c', hv', hc', _, _, hg⟩
   ·rw [hv] at hv0
    subst hL0
    obtain rfl : A = 0 := by simpa using hAl
    simp only [Value.slice.injEq] at hv0
    obtain ⟨rfl, _, rfl⟩ := hv0
    have HD' : Hid (∀ W, Below wb.heap.size wb W → W.cell? ⟨p, 0, none⟩ = some (.slice none 0 0) ∧ W.cell? ⟨w.heap.size, 0, none⟩ = some (.bool x.gone) ∧ W.cell? ⟨w.heap.size, 1, none⟩ = some (.slice (some ⟨rb, ro, none⟩) rn rc)) := Lib.hid fun W g => HD.out W g
    have HP' : Hid (PT = [] ++ ([] : List Sk.E) ++ [x] ++ ([] : List Sk.E)) := Lib.hid HP.out
    clear HD HP
    have HD := HD'
    have HP := HP'
    clear HD' HP'
    have HD1w : Hid (Below w1.heap.size w1 w1.drew) := Lib.hid ⟨rfl, rfl, rfl, Nat.le_refl _, fun _ _ => rfl⟩
    have HBB : Hid (∀ W, Below w1.heap.size w1 W → Below wb.heap.size wb W) := Lib.hid fun W gW => G1.out.trans (gW.mono G1.out.size)
    have HONE : Hid (∀ y ∈ ([] : List Sk.E), ∃ a n c, y.rv = .slice a n c) := Lib.hid fun y hy => by cases hy
    have HSA : Hid (∀ W, Below wb.heap.size wb W → Dk.Src Sk.E.enc W (.slice none 0 0) ([] : List Sk.E)) := Lib.hid fun W gW => .inl ⟨rfl, rfl⟩
    have HONX : Hid (∀ y ∈ [x], ∃ a n c, y.rv = .slice a n c) := Lib.hid fun y hy => by
     rw [List.mem_singleton] at hy
     exact ⟨_, _, _, by rw [hy]; exact hrv⟩
    have HON3 : Hid (∀ y ∈ ([] : List Sk.E), ∃ a n c, y.rv = .slice a n c) := HONE
    have HL2 : Hid (([] ++ ([] : List Sk.E)).length + [x].length ≤ 4194304) := Lib.hid (by simp)
    have HL3 : Hid (([] ++ ([] : List Sk.E) ++ [x]).length + ([] : List Sk.E).length ≤ 4194304) := Lib.hid (by simp)
    have HCS : Hid (#[Value.bool x.gone, .slice (some ⟨rb, ro, none⟩) rn rc] = x.enc.toArray) := Lib.hid (by unfold Sk.E.enc; rw [hrv])
    have HSC := HSA
    have HFZ : Hid (∀ W, Below wb.heap.size wb W → W.frozen? ⟨p, 0, none⟩ = false) := Lib.hid fun W gW => frozen_of_row W p 0 _ _ (HR.out.kept gW).blk
    have HEND : Hid (∀ W u, Dk.Own 26 2 Sk.E.enc w1.heap.size W u ([] ++ ([] : List Sk.E) ++ [x] ++ ([] : List Sk.E)) → Below w1.heap.size w1 W → Sk.RL (Sk.More S w (W.setCell ⟨p, 0, none⟩ u)) B (W.setCell ⟨p, 0, none⟩ u) p u PT ∧ Sk.Off S w (W.setCell ⟨p, 0, none⟩ u)) := Lib.hid fun W u ho gW => by
     have hb : Below w.heap.size w W := HB0.out.trans ((G1.out.trans (gW.mono G1.out.size)).mono HB0.out.size)
     rw [HP.out]
     refine h.put hb (Nat.le_trans (by have := HB0.out.size; exact this) G1.out.size) ho fun y hy => ?_
     simp only [List.nil_append, List.append_nil, List.mem_singleton] at hy
     rw [hy]; exact HXR.out
    go_wp2_with fail
    refine Sk.anyT_region 20 (S := (fun wx => wx.cell? ⟨p, 0, none⟩ = some (.slice none 0 0) ∧ wx.cell? ⟨w.heap.size, 0, none⟩ = some (.bool x.gone) ∧ wx.cell? ⟨w.heap.size, 1, none⟩ = some (.slice (some ⟨rb, ro, none⟩) rn rc))) (by kernel_rfl) (HD.out _ HD1.out) (fun hHeld => ?_)
    refine Sk.anyT_take (i := 0) (v := ?_) rfl (by kernel_rfl) (by kernel_rfl) (by kernel_rfl) (by kernel_rfl) (fun _ _ _ h => h) (Or.inl ⟨by rfl, ?_⟩) (by assumption) ?_
    rotate_left
    ·(intro wx hSw; (try dsimp only at hSw); go_simp; (try with_reducible rfl))
    try simp only [Act.put, List.getElem_toArray, List.getElem_cons_zero, List.getElem_cons_succ, List.setIfInBounds_toArray, List.set_cons_zero, List.set_cons_succ]
    refine Sk.anyT_take (i := 1) (v := ?_) rfl (by kernel_rfl) (by kernel_rfl) (by kernel_rfl) (by kernel_rfl) (fun _ _ _ h => h) (Or.inl ⟨by rfl, ?_⟩) (by assumption) ?_
    rotate_left
    ·(intro wx hSw; (try dsimp only at hSw); go_simp; (try with_reducible rfl))
    try simp only [Act.put, List.getElem_toArray, List.getElem_cons_zero, List.getElem_cons_succ, List.setIfInBounds_toArray, List.set_cons_zero, List.set_cons_succ]
    refine Sk.anyT_take (i := 2) (v := ?_) rfl (by kernel_rfl) (by kernel_rfl) (by kernel_rfl) (by kernel_rfl) (fun _ _ _ h => h) (Or.inl ⟨by rfl, ?_⟩) (by assumption) ?_
    rotate_left
    ·(intro wx hSw; (try dsimp only at hSw); go_simp; (try with_reducible rfl))
    try simp only [Act.put, List.getElem_toArray, List.getElem_cons_zero, List.getElem_cons_succ, List.setIfInBounds_toArray, List.set_cons_zero, List.set_cons_succ]
    refine Sk.anyT_take (i := 3) (v := ?_) rfl (by kernel_rfl) (by kernel_rfl) (by kernel_rfl) (by kernel_rfl) (fun _ _ _ h => h) (Or.inl ⟨by rfl, ?_⟩) (by assumption) ?_
    rotate_left
    ·(intro wx hSw; (try dsimp only at hSw); go_simp; (try with_reducible rfl))
    try simp only [Act.put, List.getElem_toArray, List.getElem_cons_zero, List.getElem_cons_succ, List.setIfInBounds_toArray, List.set_cons_zero, List.set_cons_succ]
    refine Sk.anyT_take (i := 4) (v := ?_) rfl (by kernel_rfl) (by kernel_rfl) (by kernel_rfl) (by kernel_rfl) (fun _ _ _ h => h) (Or.inl ⟨by rfl, ?_⟩) (by assumption) ?_
    rotate_left
    ·(intro wx hSw; (try dsimp only at hSw); go_simp; (try with_reducible rfl))
    try simp only [Act.put, List.getElem_toArray, List.getElem_cons_zero, List.getElem_cons_succ, List.setIfInBounds_toArray, List.set_cons_zero, List.set_cons_succ]
    refine Sk.anyT_take (i := 5) (v := ?_) rfl (by kernel_rfl) (by kernel_rfl) (by kernel_rfl) (by kernel_rfl) (fun _ _ _ h => h) (Or.inl ⟨by rfl, ?_⟩) (by assumption) ?_
    rotate_left
    ·(intro wx hSw; (try dsimp only at hSw); go_simp; (try with_reducible rfl))
    try simp only [Act.put, List.getElem_toArray, List.getElem_cons_zero, List.getElem_cons_succ, List.setIfInBounds_toArray, List.set_cons_zero, List.set_cons_succ]
    refine Sk.anyT_take (i := 6) (v := ?_) rfl (by kernel_rfl) (by kernel_rfl) (by kernel_rfl) (by kernel_rfl) (fun _ _ _ h => h) (Or.inl ⟨by rfl, ?_⟩) (by assumption) ?_
    rotate_left
    ·(intro wx hSw; (try dsimp only at hSw); go_simp; (try with_reducible rfl))
    try simp only [Act.put, List.getElem_toArray, List.getElem_cons_zero, List.getElem_cons_succ, List.setIfInBounds_toArray, List.set_cons_zero, List.set_cons_succ]
    refine Sk.anyT_take (i := 8) (v := ?_) rfl (by kernel_rfl) (by kernel_rfl) (by kernel_rfl) (by kernel_rfl) (fun _ _ _ h => h) (Or.inl ⟨by rfl, ?_⟩) (by assumption) ?_
    rotate_left
    ·(intro wx hSw; (try dsimp only at hSw); go_simp; (try with_reducible rfl))
    try simp only [Act.put, List.getElem_toArray, List.getElem_cons_zero, List.getElem_cons_succ, List.setIfInBounds_toArray, List.set_cons_zero, List.set_cons_succ]
    refine Sk.anyT_take (i := 11) (v := ?_) rfl (by kernel_rfl) (by kernel_rfl) (by kernel_rfl) (by kernel_rfl) (fun _ _ _ h => h) (Or.inl ⟨by rfl, ?_⟩) (by assumption) ?_
    rotate_left
    ·(intro wx hSw; (try dsimp only at hSw); go_simp; (try with_reducible rfl))
    try simp only [Act.put, List.getElem_toArray, List.getElem_cons_zero, List.getElem_cons_succ, List.setIfInBounds_toArray, List.set_cons_zero, List.set_cons_succ]
    refine Sk.anyT_take (i := 12) (v := ?_) rfl (by kernel_rfl) (by kernel_rfl) (by kernel_rfl) (by kernel_rfl) (fun _ _ _ h => h) (Or.inl ⟨by rfl, ?_⟩) (by assumption) ?_
    rotate_left
    ·(intro wx hSw; (try dsimp only at hSw); go_simp; (try with_reducible rfl))
    try simp only [Act.put, List.getElem_toArray, List.getElem_cons_zero, List.getElem_cons_succ, List.setIfInBounds_toArray, List.set_cons_zero, List.set_cons_succ]
    refine Sk.anyT_take (i := 13) (v := ?_) rfl (by kernel_rfl) (by kernel_rfl) (by kernel_rfl) (by kernel_rfl) (fun _ _ _ h => h) (Or.inl ⟨by rfl, ?_⟩) (by assumption) ?_
    rotate_left
    ·(intro wx hSw; (try dsimp only at hSw); go_simp; (try with_reducible rfl))
    try simp only [Act.put, List.getElem_toArray, List.getElem_cons_zero, List.getElem_cons_succ, List.setIfInBounds_toArray, List.set_cons_zero, List.set_cons_succ]
    refine Sk.anyT_take (i := 14) (v := ?_) rfl (by kernel_rfl) (by kernel_rfl) (by kernel_rfl) (by kernel_rfl) (fun _ _ _ h => h) (Or.inl ⟨by rfl, ?_⟩) (by assumption) ?_
    rotate_left
    ·(intro wx hSw; (try dsimp only at hSw); go_simp; (try with_reducible rfl))
    try simp only [Act.put, List.getElem_toArray, List.getElem_cons_zero, List.getElem_cons_succ, List.setIfInBounds_toArray, List.set_cons_zero, List.set_cons_succ]
    refine Sk.anyT_take (i := 15) (v := ?_) rfl (by kernel_rfl) (by kernel_rfl) (by kernel_rfl) (by kernel_rfl) (fun _ _ _ h => h) (Or.inl ⟨by rfl, ?_⟩) (by assumption) ?_
    rotate_left
    ·(intro wx hSw; (try dsimp only at hSw); go_simp; (try with_reducible rfl))
    try simp only [Act.put, List.getElem_toArray, List.getElem_cons_zero, List.getElem_cons_succ, List.setIfInBounds_toArray, List.set_cons_zero, List.set_cons_succ]
    refine Sk.anyT_take (i := 16) (v := ?_) rfl (by kernel_rfl) (by kernel_rfl) (by kernel_rfl) (by kernel_rfl) (fun _ _ _ h => h) (Or.inl ⟨by rfl, ?_⟩) (by assumption) ?_
    rotate_left
    ·(intro wx hSw; (try dsimp only at hSw); go_simp; (try with_reducible rfl))
    try simp only [Act.put, List.getElem_toArray, List.getElem_cons_zero, List.getElem_cons_succ, List.setIfInBounds_toArray, List.set_cons_zero, List.set_cons_succ]
    have hu := HSA.out _ HD1.out
    have hlen : ([] : List Sk.E).length + ([] : List Sk.E).length ≤ 4194304 := by simp
    refine Sk.anyT_two (i := 7) (k := 9) (o := ({ dst := some 32, op := Op.call { callee := Callee.builtin Builtin.append, args := #[Operand.const (Value.slice none 0 0), Operand.tmp 31], argTypes := #[28, 28] }, type := 28, pos := "ref.go:33", after := #[{ on := 6, ground := Ground.data }], guard := none } : Oper)) (u := ({ dst := some 34, op := Op.buildSlice 28 1 #[(0, Operand.tmp 33)], type := 28, pos := "ref.go:33", after := #[{ on := 8, ground := Ground.data }], guard := none } : Oper)) (by kernel_rfl) rfl rfl (by decide) (by decide) (fun K hK => ?_) (fun K hK => ?_)
    ·refine Sk.step_app (wo := w1) (M := []) (([] : List Sk.E)) HONE.out HD1w.out (Dk.Own.nil _ _) hlen _ _ _ (by rfl) (by rfl) (by rfl) (by rfl) hu ?_
     intro v1 wv1 o1 b1 g1
     refine hK.out _ _ (HD.out _ (HBB.out _ b1)) (fun hHeld => ?_)
     clear hK K
     try simp only [Act.put, List.getElem_toArray, List.getElem_cons_zero, List.getElem_cons_succ, List.setIfInBounds_toArray, List.set_cons_zero, List.set_cons_succ]
     refine Sk.anyT_one (i := 9) (o := ({ dst := some 34, op := Op.buildSlice 28 1 #[(0, Operand.tmp 33)], type := 28, pos := "ref.go:33", after := #[{ on := 8, ground := Ground.data }], guard := none } : Oper)) (by kernel_rfl) rfl (by decide) (fun K hK => ?_)
     go_simp
     refine hK.out _ _ (HD.out _ ((HBB.out _ b1).alloc (HBB.out _ b1).size _)) (fun hHeld => ?_)
     clear hK K
     try simp only [Act.put, List.getElem_toArray, List.getElem_cons_zero, List.getElem_cons_succ, List.setIfInBounds_toArray, List.set_cons_zero, List.set_cons_succ]
     refine Sk.anyT_one (i := 10) (o := ({ dst := some 35, op := Op.call { callee := Callee.builtin Builtin.append, args := #[Operand.tmp 32, Operand.tmp 34], argTypes := #[28, 28] }, type := 28, pos := "ref.go:33", after := #[{ on := 7, ground := Ground.data }, { on := 9, ground := Ground.data }, { on := 7, ground := Ground.chain }], guard := none } : Oper)) (by kernel_rfl) rfl (by decide) (fun K hK => ?_)
     refine Sk.step_app (wo := w1) (M := [] ++ ([] : List Sk.E)) [x] HONX.out (b1.alloc b1.size _) (World.ownsRow.alloc o1 _) HL2.out _ _ _ (by rfl) (by rfl) (by rfl) (by rfl) (Dk.src_one wv1 x _ HCS.out _) ?_
     intro v2 wv2 o2 b2 g2
     refine hK.out _ _ (HD.out _ (HBB.out _ b2)) (fun hHeld => ?_)
     clear hK K
     try simp only [Act.put, List.getElem_toArray, List.getElem_cons_zero, List.getElem_cons_succ, List.setIfInBounds_toArray, List.set_cons_zero, List.set_cons_succ]
     refine Sk.anyT_one (i := 17) (o := ({ dst := some 42, op := Op.call { callee := Callee.builtin Builtin.append, args := #[Operand.tmp 35, Operand.tmp 41], argTypes := #[28, 28] }, type := 28, pos := "ref.go:33", after := #[{ on := 10, ground := Ground.data }, { on := 16, ground := Ground.data }, { on := 10, ground := Ground.chain }], guard := none } : Oper)) (by kernel_rfl) rfl (by decide) (fun K hK => ?_)
     refine Sk.step_app (wo := w1) (M := [] ++ ([] : List Sk.E) ++ [x]) (([] : List Sk.E)) HON3.out b2 o2 HL3.out _ _ _ (by rfl) (by rfl) (by rfl) (by rfl) (HSC.out _ (HBB.out _ b2)) ?_
     intro v3 wv3 o3 b3 g3
     obtain ⟨g9, n9, c9, rfl⟩ := Sk.own_some o3 (by simp)
     refine hK.out _ _ (HD.out _ (HBB.out _ b3)) (fun hHeld => ?_)
     clear hK K
     try simp only [Act.put, List.getElem_toArray, List.getElem_cons_zero, List.getElem_cons_succ, List.setIfInBounds_toArray, List.set_cons_zero, List.set_cons_succ]
     refine Sk.anyT_one (i := 18) (o := ({ dst := some 43, op := Op.nilCheck (Operand.tmp 25), type := 0, pos := "ref.go:33", after := #[{ on := 0, ground := Ground.data }, { on := 0, ground := Ground.phase }, { on := 1, ground := Ground.phase }, { on := 2, ground := Ground.phase }, { on := 3, ground := Ground.phase }, { on := 4, ground := Ground.phase }, { on := 5, ground := Ground.phase }, { on := 6, ground := Ground.phase }, { on := 7, ground := Ground.phase }, { on := 8, ground := Ground.phase }, { on := 9, ground := Ground.phase }, { on := 10, ground := Ground.phase }, { on := 11, ground := Ground.phase }, { on := 12, ground := Ground.phase }, { on := 13, ground := Ground.phase }, { on := 14, ground := Ground.phase }, { on := 15, ground := Ground.phase }, { on := 16, ground := Ground.phase }, { on := 17, ground := Ground.phase }], guard := none } : Oper)) (by kernel_rfl) rfl (by decide) (fun K hK => ?_)
     go_simp
     refine hK.out _ _ (HD.out _ (HBB.out _ b3)) (fun hHeld => ?_)
     clear hK K
     try simp only [Act.put, List.getElem_toArray, List.getElem_cons_zero, List.getElem_cons_succ, List.setIfInBounds_toArray, List.set_cons_zero, List.set_cons_succ]
     refine Sk.anyT_one (i := 19) (o := ({ dst := some 44, op := Op.fieldAddr 68 (Operand.tmp 43) 0, type := 0, pos := "ref.go:33", after := #[{ on := 18, ground := Ground.data }, { on := 0, ground := Ground.phase }, { on := 1, ground := Ground.phase }, { on := 2, ground := Ground.phase }, { on := 3, ground := Ground.phase }, { on := 4, ground := Ground.phase }, { on := 5, ground := Ground.phase }, { on := 6, ground := Ground.phase }, { on := 7, ground := Ground.phase }, { on := 8, ground := Ground.phase }, { on := 9, ground := Ground.phase }, { on := 10, ground := Ground.phase }, { on := 11, ground := Ground.phase }, { on := 12, ground := Ground.phase }, { on := 13, ground := Ground.phase }, { on := 14, ground := Ground.phase }, { on := 15, ground := Ground.phase }, { on := 16, ground := Ground.phase }, { on := 17, ground := Ground.phase }], guard := none } : Oper)) (by kernel_rfl) rfl (by decide) (fun K hK => ?_)
     go_simp
     refine hK.out _ _ (HD.out _ (HBB.out _ b3)) (fun hHeld => ?_)
     clear hK K
     try simp only [Act.put, List.getElem_toArray, List.getElem_cons_zero, List.getElem_cons_succ, List.setIfInBounds_toArray, List.set_cons_zero, List.set_cons_succ]
     obtain ⟨c0', _, _⟩ := HD.out _ (HBB.out _ b3)
     have hfz := HFZ.out _ (HBB.out _ b3)
     refine Sk.anyT_last (o := ({ dst := none, op := Op.store 28 (Operand.tmp 44) (Operand.tmp 42), type := 0, pos := "ref.go:33", after := #[{ on := 19, ground := Ground.data }, { on := 17, ground := Ground.data }, { on := 17, ground := Ground.chain }, { on := 0, ground := Ground.phase }, { on := 1, ground := Ground.phase }, { on := 2, ground := Ground.phase }, { on := 3, ground := Ground.phase }, { on := 4, ground := Ground.phase }, { on := 5, ground := Ground.phase }, { on := 6, ground := Ground.phase }, { on := 7, ground := Ground.phase }, { on := 8, ground := Ground.phase }, { on := 9, ground := Ground.phase }, { on := 10, ground := Ground.phase }, { on := 11, ground := Ground.phase }, { on := 12, ground := Ground.phase }, { on := 13, ground := Ground.phase }, { on := 14, ground := Ground.phase }, { on := 15, ground := Ground.phase }, { on := 16, ground := Ground.phase }, { on := 17, ground := Ground.phase }], guard := none } : Oper)) (by kernel_rfl) rfl (fun K hK => ?_)
     go_simp
     refine hK.out _ _ ?_
     clear hK K
     try simp only [Act.put, List.getElem_toArray, List.getElem_cons_zero, List.getElem_cons_succ, List.setIfInBounds_toArray, List.set_cons_zero, List.set_cons_succ]
     refine Sk.anyT_done (by kernel_rfl) ?_ _
     have HFIN := Lib.hid (HEND.out _ _ o3 b3)
     clear o3 b3 g3 o2 b2 g2 c0' hfz hHeld
     go_wp2
     all_goals
      go_ret
      exact ⟨rfl, ⟨_, HFIN.out.1⟩, HFIN.out.2⟩
    ·go_simp
     refine hK.out _ _ (HD.out _ (HD1.out.alloc HD1.out.size _)) (fun hHeld => ?_)
     clear hK K
     try simp only [Act.put, List.getElem_toArray, List.getElem_cons_zero, List.getElem_cons_succ, List.setIfInBounds_toArray, List.set_cons_zero, List.set_cons_succ]
     refine Sk.anyT_one (i := 7) (o := ({ dst := some 32, op := Op.call { callee := Callee.builtin Builtin.append, args := #[Operand.const (Value.slice none 0 0), Operand.tmp 31], argTypes := #[28, 28] }, type := 28, pos := "ref.go:33", after := #[{ on := 6, ground := Ground.data }], guard := none } : Oper)) (by kernel_rfl) rfl (by decide) (fun K hK => ?_)
     refine Sk.step_app (wo := w1) (M := []) (([] : List Sk.E)) HONE.out (HD1w.out.alloc HD1w.out.size _) (Dk.Own.nil _ _) hlen _ _ _ (by rfl) (by rfl) (by rfl) (by rfl) (HSA.out _ (HD1.out.alloc HD1.out.size _)) ?_
     intro v1 wv1 o1 b1 g1
     refine hK.out _ _ (HD.out _ (HBB.out _ b1)) (fun hHeld => ?_)
     clear hK K
     try simp only [Act.put, List.getElem_toArray, List.getElem_cons_zero, List.getElem_cons_succ, List.setIfInBounds_toArray, List.set_cons_zero, List.set_cons_succ]
     refine Sk.anyT_one (i := 10) (o := ({ dst := some 35, op := Op.call { callee := Callee.builtin Builtin.append, args := #[Operand.tmp 32, Operand.tmp 34], argTypes := #[28, 28] }, type := 28, pos := "ref.go:33", after := #[{ on := 7, ground := Ground.data }, { on := 9, ground := Ground.data }, { on := 7, ground := Ground.chain }], guard := none } : Oper)) (by kernel_rfl) rfl (by decide) (fun K hK => ?_)
     refine Sk.step_app (wo := w1) (M := [] ++ ([] : List Sk.E)) [x] HONX.out b1 o1 HL2.out _ _ _ (by rfl) (by rfl) (by rfl) (by rfl) (Dk.src_cell fun j y hj => Dk.cell_kept g1 (Dk.cell_new HCS.out j y hj)) ?_
     intro v2 wv2 o2 b2 g2
     refine hK.out _ _ (HD.out _ (HBB.out _ b2)) (fun hHeld => ?_)
     clear hK K
     try simp only [Act.put, List.getElem_toArray, List.getElem_cons_zero, List.getElem_cons_succ, List.setIfInBounds_toArray, List.set_cons_zero, List.set_cons_succ]
     refine Sk.anyT_one (i := 17) (o := ({ dst := some 42, op := Op.call { callee := Callee.builtin Builtin.append, args := #[Operand.tmp 35, Operand.tmp 41], argTypes := #[28, 28] }, type := 28, pos := "ref.go:33", after := #[{ on := 10, ground := Ground.data }, { on := 16, ground := Ground.data }, { on := 10, ground := Ground.chain }], guard := none } : Oper)) (by kernel_rfl) rfl (by decide) (fun K hK => ?_)
     refine Sk.step_app (wo := w1) (M := [] ++ ([] : List Sk.E) ++ [x]) (([] : List Sk.E)) HON3.out b2 o2 HL3.out _ _ _ (by rfl) (by rfl) (by rfl) (by rfl) (HSC.out _ (HBB.out _ b2)) ?_
     intro v3 wv3 o3 b3 g3
     obtain ⟨g9, n9, c9, rfl⟩ := Sk.own_some o3 (by simp)
     refine hK.out _ _ (HD.out _ (HBB.out _ b3)) (fun hHeld => ?_)
     clear hK K
     try simp only [Act.put, List.getElem_toArray, List.getElem_cons_zero, List.getElem_cons_succ, List.setIfInBounds_toArray, List.set_cons_zero, List.set_cons_succ]
     refine Sk.anyT_one (i := 18) (o := ({ dst := some 43, op := Op.nilCheck (Operand.tmp 25), type := 0, pos := "ref.go:33", after := #[{ on := 0, ground := Ground.data }, { on := 0, ground := Ground.phase }, { on := 1, ground := Ground.phase }, { on := 2, ground := Ground.phase }, { on := 3, ground := Ground.phase }, { on := 4, ground := Ground.phase }, { on := 5, ground := Ground.phase }, { on := 6, ground := Ground.phase }, { on := 7, ground := Ground.phase }, { on := 8, ground := Ground.phase }, { on := 9, ground := Ground.phase }, { on := 10, ground := Ground.phase }, { on := 11, ground := Ground.phase }, { on := 12, ground := Ground.phase }, { on := 13, ground := Ground.phase }, { on := 14, ground := Ground.phase }, { on := 15, ground := Ground.phase }, { on := 16, ground := Ground.phase }, { on := 17, ground := Ground.phase }], guard := none } : Oper)) (by kernel_rfl) rfl (by decide) (fun K hK => ?_)
     go_simp
     refine hK.out _ _ (HD.out _ (HBB.out _ b3)) (fun hHeld => ?_)
     clear hK K
     try simp only [Act.put, List.getElem_toArray, List.getElem_cons_zero, List.getElem_cons_succ, List.setIfInBounds_toArray, List.set_cons_zero, List.set_cons_succ]
     refine Sk.anyT_one (i := 19) (o := ({ dst := some 44, op := Op.fieldAddr 68 (Operand.tmp 43) 0, type := 0, pos := "ref.go:33", after := #[{ on := 18, ground := Ground.data }, { on := 0, ground := Ground.phase }, { on := 1, ground := Ground.phase }, { on := 2, ground := Ground.phase }, { on := 3, ground := Ground.phase }, { on := 4, ground := Ground.phase }, { on := 5, ground := Ground.phase }, { on := 6, ground := Ground.phase }, { on := 7, ground := Ground.phase }, { on := 8, ground := Ground.phase }, { on := 9, ground := Ground.phase }, { on := 10, ground := Ground.phase }, { on := 11, ground := Ground.phase }, { on := 12, ground := Ground.phase }, { on := 13, ground := Ground.phase }, { on := 14, ground := Ground.phase }, { on := 15, ground := Ground.phase }, { on := 16, ground := Ground.phase }, { on := 17, ground := Ground.phase }], guard := none } : Oper)) (by kernel_rfl) rfl (by decide) (fun K hK => ?_)
     go_simp
     refine hK.out _ _ (HD.out _ (HBB.out _ b3)) (fun hHeld => ?_)
     clear hK K
     try simp only [Act.put, List.getElem_toArray, List.getElem_cons_zero, List.getElem_cons_succ, List.setIfInBounds_toArray, List.set_cons_zero, List.set_cons_succ]
     obtain ⟨c0', _, _⟩ := HD.out _ (HBB.out _ b3)
     have hfz := HFZ.out _ (HBB.out _ b3)
     refine Sk.anyT_last (o := ({ dst := none, op := Op.store 28 (Operand.tmp 44) (Operand.tmp 42), type := 0, pos := "ref.go:33", after := #[{ on := 19, ground := Ground.data }, { on := 17, ground := Ground.data }, { on := 17, ground := Ground.chain }, { on := 0, ground := Ground.phase }, { on := 1, ground := Ground.phase }, { on := 2, ground := Ground.phase }, { on := 3, ground := Ground.phase }, { on := 4, ground := Ground.phase }, { on := 5, ground := Ground.phase }, { on := 6, ground := Ground.phase }, { on := 7, ground := Ground.phase }, { on := 8, ground := Ground.phase }, { on := 9, ground := Ground.phase }, { on := 10, ground := Ground.phase }, { on := 11, ground := Ground.phase }, { on := 12, ground := Ground.phase }, { on := 13, ground := Ground.phase }, { on := 14, ground := Ground.phase }, { on := 15, ground := Ground.phase }, { on := 16, ground := Ground.phase }, { on := 17, ground := Ground.phase }], guard := none } : Oper)) (by kernel_rfl) rfl (fun K hK => ?_)
     go_simp
     refine hK.out _ _ ?_
     clear hK K
     try simp only [Act.put, List.getElem_toArray, List.getElem_cons_zero, List.getElem_cons_succ, List.setIfInBounds_toArray, List.set_cons_zero, List.set_cons_succ]
     refine Sk.anyT_done (by kernel_rfl) ?_ _
     have HFIN := Lib.hid (HEND.out _ _ o3 b3)
     clear o3 b3 g3 o2 b2 g2 c0' hfz hHeld
     go_wp2
     all_goals
      go_ret
      exact ⟨rfl, ⟨_, HFIN.out.1⟩, HFIN.out.2⟩
   ·rw [hv] at hv'
    simp only [Value.slice.injEq, true_and] at hv'
    obtain ⟨rfl, rfl⟩ := hv'
    have hcl : (L.length : Int) ≤ (c : Int) := by omega
    have hAc : A ≤ c := by omega
    have hci : (A : Int) ≤ (c : Int) := by omega
    have HD1w : Hid (Below w1.heap.size w1 w1.drew) := Lib.hid ⟨rfl, rfl, rfl, Nat.le_refl _, fun _ _ => rfl⟩
    have HBB : Hid (∀ W, Below w1.heap.size w1 W → Below wb.heap.size wb W) := Lib.hid fun W gW => G1.out.trans (gW.mono G1.out.size)
    have HLB := Lib.hid hl
    have HONE : Hid (∀ y ∈ L.take A, ∃ a n c, y.rv = .slice a n c) := Lib.hid fun y hy => by
     obtain ⟨ya, yc, hyv, _⟩ := (h.rows y (List.mem_of_mem_take hy)).1
     exact ⟨_, _, _, hyv⟩
    have HC : Hid (∀ W, Below wb.heap.size wb W → ∀ i j y, L[i]? = some y → j < 2 → W.cell? ⟨g, i * 2 + j, none⟩ = y.enc[j]?) := Lib.hid fun W gW i j y hi hj => by
     have h2 := HR.out.kept gW
     rw [hv] at h2
     exact h2.own.cell Sk.enc_len rfl hi hj
    have HSA : Hid (∀ W, Below wb.heap.size wb W → Dk.Src Sk.E.enc W (.slice (some ⟨g, 0, none⟩) A c) (L.take A)) := Lib.hid fun W gW => Dk.src_take Sk.enc_len (by decide) (HC.out W gW) hAl c
    have HONX : Hid (∀ y ∈ [x], ∃ a n c, y.rv = .slice a n c) := Lib.hid fun y hy => by
     rw [List.mem_singleton] at hy
     exact ⟨_, _, _, by rw [hy]; exact hrv⟩
    have HON3 : Hid (∀ y ∈ L.drop A, ∃ a n c, y.rv = .slice a n c) := Lib.hid fun y hy => by
     obtain ⟨ya, yc, hyv, _⟩ := (h.rows y (List.mem_of_mem_drop hy)).1
     exact ⟨_, _, _, hyv⟩
    have HL2 : Hid (([] ++ L.take A).length + [x].length ≤ 4194304) := Lib.hid (by simp only [List.nil_append, List.length_take, List.length_singleton]; omega)
    have HL3 : Hid (([] ++ L.take A ++ [x]).length + (L.drop A).length ≤ 4194304) := Lib.hid (by simp only [List.nil_append, List.length_append, List.length_take, List.length_singleton, List.length_drop]; omega)
    have HCS : Hid (#[Value.bool x.gone, .slice (some ⟨rb, ro, none⟩) rn rc] = x.enc.toArray) := Lib.hid (by unfold Sk.E.enc; rw [hrv])
    have HSC : Hid (∀ W, Below wb.heap.size wb W → Dk.Src Sk.E.enc W (.slice (if c = A then some ⟨g, 0, none⟩ else some ⟨g, A * 2, none⟩) (L.length - A) (c - A)) (L.drop A)) := Lib.hid fun W gW => by
     by_cases hcA : c = A
     ·rw [if_pos hcA]; exact Dk.src_none g 0 (c - A) (L.length - A) (List.drop_eq_nil_of_le (by omega)) (by omega)
     ·rw [if_neg hcA]; exact Dk.src_drop Sk.enc_len (by decide) rfl (HC.out W gW) (c - A)
    have HFZ : Hid (∀ W, Below wb.heap.size wb W → W.frozen? ⟨p, 0, none⟩ = false) := Lib.hid fun W gW => frozen_of_row W p 0 _ _ (HR.out.kept gW).blk
    have HEND : Hid (∀ W u, Dk.Own 26 2 Sk.E.enc w1.heap.size W u ([] ++ L.take A ++ [x] ++ L.drop A) → Below w1.heap.size w1 W → Sk.RL (Sk.More S w (W.setCell ⟨p, 0, none⟩ u)) B (W.setCell ⟨p, 0, none⟩ u) p u PT ∧ Sk.Off S w (W.setCell ⟨p, 0, none⟩ u)) := Lib.hid fun W u ho gW => by
     have hb : Below w.heap.size w W := HB0.out.trans ((G1.out.trans (gW.mono G1.out.size)).mono HB0.out.size)
     rw [HP.out]
     refine h.put hb (Nat.le_trans (by have := HB0.out.size; exact this) G1.out.size) ho fun y hy => ?_
     simp only [List.nil_append, List.mem_append, List.mem_singleton] at hy
     rcases hy with (hy | hy) | hy
     ·exact h.rows y (List.mem_of_mem_take hy)
     ·rw [hy]; exact HXR.out
     ·exact h.rows y (List.mem_of_mem_drop hy)
    go_wp2_with fail
    refine Sk.anyT_region 20 (S := (fun wx => wx.cell? ⟨p, 0, none⟩ = some (.slice (some ⟨g, 0, none⟩) L.length c) ∧ wx.cell? ⟨w.heap.size, 0, none⟩ = some (.bool x.gone) ∧ wx.cell? ⟨w.heap.size, 1, none⟩ = some (.slice (some ⟨rb, ro, none⟩) rn rc))) (by kernel_rfl) (HD.out _ HD1.out) (fun hHeld => ?_)
    refine Sk.anyT_take (i := 0) (v := ?_) rfl (by kernel_rfl) (by kernel_rfl) (by kernel_rfl) (by kernel_rfl) (fun _ _ _ h => h) (Or.inl ⟨by rfl, ?_⟩) (by assumption) ?_
    rotate_left
    ·(intro wx hSw; (try dsimp only at hSw); go_simp; (try with_reducible rfl))
    try simp only [Act.put, List.getElem_toArray, List.getElem_cons_zero, List.getElem_cons_succ, List.setIfInBounds_toArray, List.set_cons_zero, List.set_cons_succ]
    refine Sk.anyT_take (i := 1) (v := ?_) rfl (by kernel_rfl) (by kernel_rfl) (by kernel_rfl) (by kernel_rfl) (fun _ _ _ h => h) (Or.inl ⟨by rfl, ?_⟩) (by assumption) ?_
    rotate_left
    ·(intro wx hSw; (try dsimp only at hSw); go_simp; (try with_reducible rfl))
    try simp only [Act.put, List.getElem_toArray, List.getElem_cons_zero, List.getElem_cons_succ, List.setIfInBounds_toArray, List.set_cons_zero, List.set_cons_succ]
    refine Sk.anyT_take (i := 2) (v := ?_) rfl (by kernel_rfl) (by kernel_rfl) (by kernel_rfl) (by kernel_rfl) (fun _ _ _ h => h) (Or.inl ⟨by rfl, ?_⟩) (by assumption) ?_
    rotate_left
    ·(intro wx hSw; (try dsimp only at hSw); go_simp; (try with_reducible rfl))
    try simp only [Act.put, List.getElem_toArray, List.getElem_cons_zero, List.getElem_cons_succ, List.setIfInBounds_toArray, List.set_cons_zero, List.set_cons_succ]
    refine Sk.anyT_take (i := 3) (v := ?_) rfl (by kernel_rfl) (by kernel_rfl) (by kernel_rfl) (by kernel_rfl) (fun _ _ _ h => h) (Or.inl ⟨by rfl, ?_⟩) (by assumption) ?_
    rotate_left
    ·(intro wx hSw; (try dsimp only at hSw); go_simp; (try with_reducible rfl))
    try simp only [Act.put, List.getElem_toArray, List.getElem_cons_zero, List.getElem_cons_succ, List.setIfInBounds_toArray, List.set_cons_zero, List.set_cons_succ]
    refine Sk.anyT_take (i := 4) (v := ?_) rfl (by kernel_rfl) (by kernel_rfl) (by kernel_rfl) (by kernel_rfl) (fun _ _ _ h => h) (Or.inl ⟨by rfl, ?_⟩) (by assumption) ?_
    rotate_left
    ·(intro wx hSw; (try dsimp only at hSw); go_simp; (try with_reducible rfl))
    try simp only [Act.put, List.getElem_toArray, List.getElem_cons_zero, List.getElem_cons_succ, List.setIfInBounds_toArray, List.set_cons_zero, List.set_cons_succ]
    refine Sk.anyT_take (i := 5) (v := ?_) rfl (by kernel_rfl) (by kernel_rfl) (by kernel_rfl) (by kernel_rfl) (fun _ _ _ h => h) (Or.inl ⟨by rfl, ?_⟩) (by assumption) ?_
    rotate_left
    ·(intro wx hSw; (try dsimp only at hSw); go_simp; (try with_reducible rfl))
    try simp only [Act.put, List.getElem_toArray, List.getElem_cons_zero, List.getElem_cons_succ, List.setIfInBounds_toArray, List.set_cons_zero, List.set_cons_succ]
    refine Sk.anyT_take (i := 6) (v := ?_) rfl (by kernel_rfl) (by kernel_rfl) (by kernel_rfl) (by kernel_rfl) (fun _ _ _ h => h) (Or.inl ⟨by rfl, ?_⟩) (by assumption) ?_
    rotate_left
    ·(intro wx hSw; (try dsimp only at hSw); go_simp; (try with_reducible rfl))
    try simp only [Act.put, List.getElem_toArray, List.getElem_cons_zero, List.getElem_cons_succ, List.setIfInBounds_toArray, List.set_cons_zero, List.set_cons_succ]
    refine Sk.anyT_take (i := 8) (v := ?_) rfl (by kernel_rfl) (by kernel_rfl) (by kernel_rfl) (by kernel_rfl) (fun _ _ _ h => h) (Or.inl ⟨by rfl, ?_⟩) (by assumption) ?_
    rotate_left
    ·(intro wx hSw; (try dsimp only at hSw); go_simp; (try with_reducible rfl))
    try simp only [Act.put, List.getElem_toArray, List.getElem_cons_zero, List.getElem_cons_succ, List.setIfInBounds_toArray, List.set_cons_zero, List.set_cons_succ]
    refine Sk.anyT_take (i := 11) (v := ?_) rfl (by kernel_rfl) (by kernel_rfl) (by kernel_rfl) (by kernel_rfl) (fun _ _ _ h => h) (Or.inl ⟨by rfl, ?_⟩) (by assumption) ?_
    rotate_left
    ·(intro wx hSw; (try dsimp only at hSw); go_simp; (try with_reducible rfl))
    try simp only [Act.put, List.getElem_toArray, List.getElem_cons_zero, List.getElem_cons_succ, List.setIfInBounds_toArray, List.set_cons_zero, List.set_cons_succ]
    refine Sk.anyT_take (i := 12) (v := ?_) rfl (by kernel_rfl) (by kernel_rfl) (by kernel_rfl) (by kernel_rfl) (fun _ _ _ h => h) (Or.inl ⟨by rfl, ?_⟩) (by assumption) ?_
    rotate_left
    ·(intro wx hSw; (try dsimp only at hSw); go_simp; (try with_reducible rfl))
    try simp only [Act.put, List.getElem_toArray, List.getElem_cons_zero, List.getElem_cons_succ, List.setIfInBounds_toArray, List.set_cons_zero, List.set_cons_succ]
    refine Sk.anyT_take (i := 13) (v := ?_) rfl (by kernel_rfl) (by kernel_rfl) (by kernel_rfl) (by kernel_rfl) (fun _ _ _ h => h) (Or.inl ⟨by rfl, ?_⟩) (by assumption) ?_
    rotate_left
    ·(intro wx hSw; (try dsimp only at hSw); go_simp; (try with_reducible rfl))
    try simp only [Act.put, List.getElem_toArray, List.getElem_cons_zero, List.getElem_cons_succ, List.setIfInBounds_toArray, List.set_cons_zero, List.set_cons_succ]
    refine Sk.anyT_take (i := 14) (v := ?_) rfl (by kernel_rfl) (by kernel_rfl) (by kernel_rfl) (by kernel_rfl) (fun _ _ _ h => h) (Or.inl ⟨by rfl, ?_⟩) (by assumption) ?_
    rotate_left
    ·(intro wx hSw; (try dsimp only at hSw); go_simp; (try with_reducible rfl))
    try simp only [Act.put, List.getElem_toArray, List.getElem_cons_zero, List.getElem_cons_succ, List.setIfInBounds_toArray, List.set_cons_zero, List.set_cons_succ]
    refine Sk.anyT_take (i := 15) (v := ?_) rfl (by kernel_rfl) (by kernel_rfl) (by kernel_rfl) (by kernel_rfl) (fun _ _ _ h => h) (Or.inl ⟨by rfl, ?_⟩) (by assumption) ?_
    rotate_left
    ·(intro wx hSw; (try dsimp only at hSw); go_simp; (try with_reducible rfl))
    try simp only [Act.put, List.getElem_toArray, List.getElem_cons_zero, List.getElem_cons_succ, List.setIfInBounds_toArray, List.set_cons_zero, List.set_cons_succ]
    refine Sk.anyT_take (i := 16) (v := ?_) rfl (by kernel_rfl) (by kernel_rfl) (by kernel_rfl) (by kernel_rfl) (fun _ _ _ h => h) (Or.inl ⟨by rfl, ?_⟩) (by assumption) ?_
    rotate_left
    ·(intro wx hSw; (try dsimp only at hSw); go_simp; (try with_reducible rfl))
    try simp only [Act.put, List.getElem_toArray, List.getElem_cons_zero, List.getElem_cons_succ, List.setIfInBounds_toArray, List.set_cons_zero, List.set_cons_succ]
    have hu := HSA.out _ HD1.out
    have hlen : ([] : List Sk.E).length + (L.take A).length ≤ 4194304 := by have := HLB.out; simp only [List.length_nil, List.length_take]; omega
    refine Sk.anyT_two (i := 7) (k := 9) (o := ({ dst := some 32, op := Op.call { callee := Callee.builtin Builtin.append, args := #[Operand.const (Value.slice none 0 0), Operand.tmp 31], argTypes := #[28, 28] }, type := 28, pos := "ref.go:33", after := #[{ on := 6, ground := Ground.data }], guard := none } : Oper)) (u := ({ dst := some 34, op := Op.buildSlice 28 1 #[(0, Operand.tmp 33)], type := 28, pos := "ref.go:33", after := #[{ on := 8, ground := Ground.data }], guard := none } : Oper)) (by kernel_rfl) rfl rfl (by decide) (by decide) (fun K hK => ?_) (fun K hK => ?_)
    ·refine Sk.step_app (wo := w1) (M := []) (L.take A) HONE.out HD1w.out (Dk.Own.nil _ _) hlen _ _ _ (by rfl) (by rfl) (by rfl) (by rfl) hu ?_
     intro v1 wv1 o1 b1 g1
     refine hK.out _ _ (HD.out _ (HBB.out _ b1)) (fun hHeld => ?_)
     clear hK K
     try simp only [Act.put, List.getElem_toArray, List.getElem_cons_zero, List.getElem_cons_succ, List.setIfInBounds_toArray, List.set_cons_zero, List.set_cons_succ]
     refine Sk.anyT_one (i := 9) (o := ({ dst := some 34, op := Op.buildSlice 28 1 #[(0, Operand.tmp 33)], type := 28, pos := "ref.go:33", after := #[{ on := 8, ground := Ground.data }], guard := none } : Oper)) (by kernel_rfl) rfl (by decide) (fun K hK => ?_)
     go_simp
     refine hK.out _ _ (HD.out _ ((HBB.out _ b1).alloc (HBB.out _ b1).size _)) (fun hHeld => ?_)
     clear hK K
     try simp only [Act.put, List.getElem_toArray, List.getElem_cons_zero, List.getElem_cons_succ, List.setIfInBounds_toArray, List.set_cons_zero, List.set_cons_succ]
     refine Sk.anyT_one (i := 10) (o := ({ dst := some 35, op := Op.call { callee := Callee.builtin Builtin.append, args := #[Operand.tmp 32, Operand.tmp 34], argTypes := #[28, 28] }, type := 28, pos := "ref.go:33", after := #[{ on := 7, ground := Ground.data }, { on := 9, ground := Ground.data }, { on := 7, ground := Ground.chain }], guard := none } : Oper)) (by kernel_rfl) rfl (by decide) (fun K hK => ?_)
     refine Sk.step_app (wo := w1) (M := [] ++ L.take A) [x] HONX.out (b1.alloc b1.size _) (World.ownsRow.alloc o1 _) HL2.out _ _ _ (by rfl) (by rfl) (by rfl) (by rfl) (Dk.src_one wv1 x _ HCS.out _) ?_
     intro v2 wv2 o2 b2 g2
     refine hK.out _ _ (HD.out _ (HBB.out _ b2)) (fun hHeld => ?_)
     clear hK K
     try simp only [Act.put, List.getElem_toArray, List.getElem_cons_zero, List.getElem_cons_succ, List.setIfInBounds_toArray, List.set_cons_zero, List.set_cons_succ]
     refine Sk.anyT_one (i := 17) (o := ({ dst := some 42, op := Op.call { callee := Callee.builtin Builtin.append, args := #[Operand.tmp 35, Operand.tmp 41], argTypes := #[28, 28] }, type := 28, pos := "ref.go:33", after := #[{ on := 10, ground := Ground.data }, { on := 16, ground := Ground.data }, { on := 10, ground := Ground.chain }], guard := none } : Oper)) (by kernel_rfl) rfl (by decide) (fun K hK => ?_)
     refine Sk.step_app (wo := w1) (M := [] ++ L.take A ++ [x]) (L.drop A) HON3.out b2 o2 HL3.out _ _ _ (by rfl) (by rfl) (by rfl) (by rfl) (HSC.out _ (HBB.out _ b2)) ?_
     intro v3 wv3 o3 b3 g3
     obtain ⟨g9, n9, c9, rfl⟩ := Sk.own_some o3 (by simp)
     refine hK.out _ _ (HD.out _ (HBB.out _ b3)) (fun hHeld => ?_)
     clear hK K
     try simp only [Act.put, List.getElem_toArray, List.getElem_cons_zero, List.getElem_cons_succ, List.setIfInBounds_toArray, List.set_cons_zero, List.set_cons_succ]
     refine Sk.anyT_one (i := 18) (o := ({ dst := some 43, op := Op.nilCheck (Operand.tmp 25), type := 0, pos := "ref.go:33", after := #[{ on := 0, ground := Ground.data }, { on := 0, ground := Ground.phase }, { on := 1, ground := Ground.phase }, { on := 2, ground := Ground.phase }, { on := 3, ground := Ground.phase }, { on := 4, ground := Ground.phase }, { on := 5, ground := Ground.phase }, { on := 6, ground := Ground.phase }, { on := 7, ground := Ground.phase }, { on := 8, ground := Ground.phase }, { on := 9, ground := Ground.phase }, { on := 10, ground := Ground.phase }, { on := 11, ground := Ground.phase }, { on := 12, ground := Ground.phase }, { on := 13, ground := Ground.phase }, { on := 14, ground := Ground.phase }, { on := 15, ground := Ground.phase }, { on := 16, ground := Ground.phase }, { on := 17, ground := Ground.phase }], guard := none } : Oper)) (by kernel_rfl) rfl (by decide) (fun K hK => ?_)
     go_simp
     refine hK.out _ _ (HD.out _ (HBB.out _ b3)) (fun hHeld => ?_)
     clear hK K
     try simp only [Act.put, List.getElem_toArray, List.getElem_cons_zero, List.getElem_cons_succ, List.setIfInBounds_toArray, List.set_cons_zero, List.set_cons_succ]
     refine Sk.anyT_one (i := 19) (o := ({ dst := some 44, op := Op.fieldAddr 68 (Operand.tmp 43) 0, type := 0, pos := "ref.go:33", after := #[{ on := 18, ground := Ground.data }, { on := 0, ground := Ground.phase }, { on := 1, ground := Ground.phase }, { on := 2, ground := Ground.phase }, { on := 3, ground := Ground.phase }, { on := 4, ground := Ground.phase }, { on := 5, ground := Ground.phase }, { on := 6, ground := Ground.phase }, { on := 7, ground := Ground.phase }, { on := 8, ground := Ground.phase }, { on := 9, ground := Ground.phase }, { on := 10, ground := Ground.phase }, { on := 11, ground := Ground.phase }, { on := 12, ground := Ground.phase }, { on := 13, ground := Ground.phase }, { on := 14, ground := Ground.phase }, { on := 15, ground := Ground.phase }, { on := 16, ground := Ground.phase }, { on := 17, ground := Ground.phase }], guard := none } : Oper)) (by kernel_rfl) rfl (by decide) (fun K hK => ?_)
     go_simp
     refine hK.out _ _ (HD.out _ (HBB.out _ b3)) (fun hHeld => ?_)
     clear hK K
     try simp only [Act.put, List.getElem_toArray, List.getElem_cons_zero, List.getElem_cons_succ, List.setIfInBounds_toArray, List.set_cons_zero, List.set_cons_succ]
     obtain ⟨c0', _, _⟩ := HD.out _ (HBB.out _ b3)
     have hfz := HFZ.out _ (HBB.out _ b3)
     refine Sk.anyT_last (o := ({ dst := none, op := Op.store 28 (Operand.tmp 44) (Operand.tmp 42), type := 0, pos := "ref.go:33", after := #[{ on := 19, ground := Ground.data }, { on := 17, ground := Ground.data }, { on := 17, ground := Ground.chain }, { on := 0, ground := Ground.phase }, { on := 1, ground := Ground.phase }, { on := 2, ground := Ground.phase }, { on := 3, ground := Ground.phase }, { on := 4, ground := Ground.phase }, { on := 5, ground := Ground.phase }, { on := 6, ground := Ground.phase }, { on := 7, ground := Ground.phase }, { on := 8, ground := Ground.phase }, { on := 9, ground := Ground.phase }, { on := 10, ground := Ground.phase }, { on := 11, ground := Ground.phase }, { on := 12, ground := Ground.phase }, { on := 13, ground := Ground.phase }, { on := 14, ground := Ground.phase }, { on := 15, ground := Ground.phase }, { on := 16, ground := Ground.phase }, { on := 17, ground := Ground.phase }], guard := none } : Oper)) (by kernel_rfl) rfl (fun K hK => ?_)
     go_simp
     refine hK.out _ _ ?_
     clear hK K
     try simp only [Act.put, List.getElem_toArray, List.getElem_cons_zero, List.getElem_cons_succ, List.setIfInBounds_toArray, List.set_cons_zero, List.set_cons_succ]
     refine Sk.anyT_done (by kernel_rfl) ?_ _
     have HFIN := Lib.hid (HEND.out _ _ o3 b3)
     clear o3 b3 g3 o2 b2 g2 c0' hfz hHeld
     go_wp2
     all_goals
      go_ret
      exact ⟨rfl, ⟨_, HFIN.out.1⟩, HFIN.out.2⟩
    ·go_simp
     refine hK.out _ _ (HD.out _ (HD1.out.alloc HD1.out.size _)) (fun hHeld => ?_)
     clear hK K
     try simp only [Act.put, List.getElem_toArray, List.getElem_cons_zero, List.getElem_cons_succ, List.setIfInBounds_toArray, List.set_cons_zero, List.set_cons_succ]
     refine Sk.anyT_one (i := 7) (o := ({ dst := some 32, op := Op.call { callee := Callee.builtin Builtin.append, args := #[Operand.const (Value.slice none 0 0), Operand.tmp 31], argTypes := #[28, 28] }, type := 28, pos := "ref.go:33", after := #[{ on := 6, ground := Ground.data }], guard := none } : Oper)) (by kernel_rfl) rfl (by decide) (fun K hK => ?_)
     refine Sk.step_app (wo := w1) (M := []) (L.take A) HONE.out (HD1w.out.alloc HD1w.out.size _) (Dk.Own.nil _ _) hlen _ _ _ (by rfl) (by rfl) (by rfl) (by rfl) (HSA.out _ (HD1.out.alloc HD1.out.size _)) ?_
     intro v1 wv1 o1 b1 g1
     refine hK.out _ _ (HD.out _ (HBB.out _ b1)) (fun hHeld => ?_)
     clear hK K
     try simp only [Act.put, List.getElem_toArray, List.getElem_cons_zero, List.getElem_cons_succ, List.setIfInBounds_toArray, List.set_cons_zero, List.set_cons_succ]
     refine Sk.anyT_one (i := 10) (o := ({ dst := some 35, op := Op.call { callee := Callee.builtin Builtin.append, args := #[Operand.tmp 32, Operand.tmp 34], argTypes := #[28, 28] }, type := 28, pos := "ref.go:33", after := #[{ on := 7, ground := Ground.data }, { on := 9, ground := Ground.data }, { on := 7, ground := Ground.chain }], guard := none } : Oper)) (by kernel_rfl) rfl (by decide) (fun K hK => ?_)
     refine Sk.step_app (wo := w1) (M := [] ++ L.take A) [x] HONX.out b1 o1 HL2.out _ _ _ (by rfl) (by rfl) (by rfl) (by rfl) (Dk.src_cell fun j y hj => Dk.cell_kept g1 (Dk.cell_new HCS.out j y hj)) ?_
     intro v2 wv2 o2 b2 g2
     refine hK.out _ _ (HD.out _ (HBB.out _ b2)) (fun hHeld => ?_)
     clear hK K
     try simp only [Act.put, List.getElem_toArray, List.getElem_cons_zero, List.getElem_cons_succ, List.setIfInBounds_toArray, List.set_cons_zero, List.set_cons_succ]
     refine Sk.anyT_one (i := 17) (o := ({ dst := some 42, op := Op.call { callee := Callee.builtin Builtin.append, args := #[Operand.tmp 35, Operand.tmp 41], argTypes := #[28, 28] }, type := 28, pos := "ref.go:33", after := #[{ on := 10, ground := Ground.data }, { on := 16, ground := Ground.data }, { on := 10, ground := Ground.chain }], guard := none } : Oper)) (by kernel_rfl) rfl (by decide) (fun K hK => ?_)
     refine Sk.step_app (wo := w1) (M := [] ++ L.take A ++ [x]) (L.drop A) HON3.out b2 o2 HL3.out _ _ _ (by rfl) (by rfl) (by rfl) (by rfl) (HSC.out _ (HBB.out _ b2)) ?_
     intro v3 wv3 o3 b3 g3
     obtain ⟨g9, n9, c9, rfl⟩ := Sk.own_some o3 (by simp)
     refine hK.out _ _ (HD.out _ (HBB.out _ b3)) (fun hHeld => ?_)
     clear hK K
     try simp only [Act.put, List.getElem_toArray, List.getElem_cons_zero, List.getElem_cons_succ, List.setIfInBounds_toArray, List.set_cons_zero, List.set_cons_succ]
     refine Sk.anyT_one (i := 18) (o := ({ dst := some 43, op := Op.nilCheck (Operand.tmp 25), type := 0, pos := "ref.go:33", after := #[{ on := 0, ground := Ground.data }, { on := 0, ground := Ground.phase }, { on := 1, ground := Ground.phase }, { on := 2, ground := Ground.phase }, { on := 3, ground := Ground.phase }, { on := 4, ground := Ground.phase }, { on := 5, ground := Ground.phase }, { on := 6, ground := Ground.phase }, { on := 7, ground := Ground.phase }, { on := 8, ground := Ground.phase }, { on := 9, ground := Ground.phase }, { on := 10, ground := Ground.phase }, { on := 11, ground := Ground.phase }, { on := 12, ground := Ground.phase }, { on := 13, ground := Ground.phase }, { on := 14, ground := Ground.phase }, { on := 15, ground := Ground.phase }, { on := 16, ground := Ground.phase }, { on := 17, ground := Ground.phase }], guard := none } : Oper)) (by kernel_rfl) rfl (by decide) (fun K hK => ?_)
     go_simp
     refine hK.out _ _ (HD.out _ (HBB.out _ b3)) (fun hHeld => ?_)
     clear hK K
     try simp only [Act.put, List.getElem_toArray, List.getElem_cons_zero, List.getElem_cons_succ, List.setIfInBounds_toArray, List.set_cons_zero, List.set_cons_succ]
     refine Sk.anyT_one (i := 19) (o := ({ dst := some 44, op := Op.fieldAddr 68 (Operand.tmp 43) 0, type := 0, pos := "ref.go:33", after := #[{ on := 18, ground := Ground.data }, { on := 0, ground := Ground.phase }, { on := 1, ground := Ground.phase }, { on := 2, ground := Ground.phase }, { on := 3, ground := Ground.phase }, { on := 4, ground := Ground.phase }, { on := 5, ground := Ground.phase }, { on := 6, ground := Ground.phase }, { on := 7, ground := Ground.phase }, { on := 8, ground := Ground.phase }, { on := 9, ground := Ground.phase }, { on := 10, ground := Ground.phase }, { on := 11, ground := Ground.phase }, { on := 12, ground := Ground.phase }, { on := 13, ground := Ground.phase }, { on := 14, ground := Ground.phase }, { on := 15, ground := Ground.phase }, { on := 16, ground := Ground.phase }, { on := 17, ground := Ground.phase }], guard := none } : Oper)) (by kernel_rfl) rfl (by decide) (fun K hK => ?_)
     go_simp
     refine hK.out _ _ (HD.out _ (HBB.out _ b3)) (fun hHeld => ?_)
     clear hK K
     try simp only [Act.put, List.getElem_toArray, List.getElem_cons_zero, List.getElem_cons_succ, List.setIfInBounds_toArray, List.set_cons_zero, List.set_cons_succ]
     obtain ⟨c0', _, _⟩ := HD.out _ (HBB.out _ b3)
     have hfz := HFZ.out _ (HBB.out _ b3)
     refine Sk.anyT_last (o := ({ dst := none, op := Op.store 28 (Operand.tmp 44) (Operand.tmp 42), type := 0, pos := "ref.go:33", after := #[{ on := 19, ground := Ground.data }, { on := 17, ground := Ground.data }, { on := 17, ground := Ground.chain }, { on := 0, ground := Ground.phase }, { on := 1, ground := Ground.phase }, { on := 2, ground := Ground.phase }, { on := 3, ground := Ground.phase }, { on := 4, ground := Ground.phase }, { on := 5, ground := Ground.phase }, { on := 6, ground := Ground.phase }, { on := 7, ground := Ground.phase }, { on := 8, ground := Ground.phase }, { on := 9, ground := Ground.phase }, { on := 10, ground := Ground.phase }, { on := 11, ground := Ground.phase }, { on := 12, ground := Ground.phase }, { on := 13, ground := Ground.phase }, { on := 14, ground := Ground.phase }, { on := 15, ground := Ground.phase }, { on := 16, ground := Ground.phase }, { on := 17, ground := Ground.phase }], guard := none } : Oper)) (by kernel_rfl) rfl (fun K hK => ?_)
     go_simp
     refine hK.out _ _ ?_
     clear hK K
     try simp only [Act.put, List.getElem_toArray, List.getElem_cons_zero, List.getElem_cons_succ, List.setIfInBounds_toArray, List.set_cons_zero, List.set_cons_succ]
     refine Sk.anyT_done (by kernel_rfl) ?_ _
     have HFIN := Lib.hid (HEND.out _ _ o3 b3)
     clear o3 b3 g3 o2 b2 g2 c0' hfz hHeld
     go_wp2
     all_goals
      go_ret
      exact ⟨rfl, ⟨_, HFIN.out.1⟩, HFIN.out.2⟩
 | true =>
   have hql : (A + 1) ≤ L.length := by
    obtain ⟨y, hy, _⟩ := Sk.there_some hth
    have := (List.getElem?_eq_some_iff.1 hy).1
    omega
   have hqq : (A : Int) + 1 ≤ (L.length : Int) := by omega
   have hqz : (0 : Int) ≤ (A : Int) + 1 := by omega
   have hAm : (A : Int) < 9223372036854775807 := by omega
   have HP : Hid (Sk.put Sk.ke L x = L.take A ++ [x] ++ L.drop (A + 1)) := Lib.hid (Sk.put_at hA.symm (by rw [hth]; rfl))
   rw [hth] at cp
   generalize Sk.put Sk.ke L x = PT at HP ⊢
   rw [hrv]
   clear hrm hrz hr hne hrn hkr hke hkz hkat hR hA hth
   go_enter Tryz.func33, Tryz.ntmps33
   go_wp2_with fail
   rw [← hwb]
   clear hwb
   with_reducible refine cp.mono ?_
   rintro e w1 ⟨rfl, g1⟩
   obtain ⟨c0, c1, c2⟩ := HD.out w1 g1
   have G1 := Lib.hid g1
   clear cp g1 d0 d1 k0 k1 k2
   have HD1 : Hid (Below wb.heap.size wb w1.drew) := Lib.hid ⟨G1.out.os, G1.out.tape, G1.out.output, G1.out.size, G1.out.block⟩
   have hA0 : (0 : Int) ≤ (A : Int) := by omega
   have hAi : (A : Int) ≤ (L.length : Int) := by omega
   rcases h.own.form with ⟨hv0, hL0⟩ | ⟨g, c', hv', hc', _, _, hg⟩
   ·exfalso; rw [hL0] at hql; simp at hql
   ·rw [hv] at hv'
    simp only [Value.slice.injEq, true_and] at hv'
    obtain ⟨rfl, rfl⟩ := hv'
    have hcl : (L.length : Int) ≤ (c : Int) := by omega
    have hAc : A ≤ c := by omega
    have hqc : (A + 1) ≤ c := by omega
    have hqci : ((A : Int) + 1) ≤ (c : Int) := by omega
    have hci : (A : Int) ≤ (c : Int) := by omega
    have HD1w : Hid (Below w1.heap.size w1 w1.drew) := Lib.hid ⟨rfl, rfl, rfl, Nat.le_refl _, fun _ _ => rfl⟩
    have HBB : Hid (∀ W, Below w1.heap.size w1 W → Below wb.heap.size wb W) := Lib.hid fun W gW => G1.out.trans (gW.mono G1.out.size)
    have HLB := Lib.hid hl
    have HONE : Hid (∀ y ∈ L.take A, ∃ a n c, y.rv = .slice a n c) := Lib.hid fun y hy => by
     obtain ⟨ya, yc, hyv, _⟩ := (h.rows y (List.mem_of_mem_take hy)).1
     exact ⟨_, _, _, hyv⟩
    have HC : Hid (∀ W, Below wb.heap.size wb W → ∀ i j y, L[i]? = some y → j < 2 → W.cell? ⟨g, i * 2 + j, none⟩ = y.enc[j]?) := Lib.hid fun W gW i j y hi hj => by
     have h2 := HR.out.kept gW
     rw [hv] at h2
     exact h2.own.cell Sk.enc_len rfl hi hj
    have HSA : Hid (∀ W, Below wb.heap.size wb W → Dk.Src Sk.E.enc W (.slice (some ⟨g, 0, none⟩) A c) (L.take A)) := Lib.hid fun W gW => Dk.src_take Sk.enc_len (by decide) (HC.out W gW) hAl c
    have HONX : Hid (∀ y ∈ [x], ∃ a n c, y.rv = .slice a n c) := Lib.hid fun y hy => by
     rw [List.mem_singleton] at hy
     exact ⟨_, _, _, by rw [hy]; exact hrv⟩
    have HON3 : Hid (∀ y ∈ L.drop (A + 1), ∃ a n c, y.rv = .slice a n c) := Lib.hid fun y hy => by
     obtain ⟨ya, yc, hyv, _⟩ := (h.rows y (List.mem_of_mem_drop hy)).1
     exact ⟨_, _, _, hyv⟩
    have HL2 : Hid (([] ++ L.take A).length + [x].length ≤ 4194304) := Lib.hid (by simp only [List.nil_append, List.length_take, List.length_singleton]; omega)
    have HL3 : Hid (([] ++ L.take A ++ [x]).length + (L.drop (A + 1)).length ≤ 4194304) := Lib.hid (by simp only [List.nil_append, List.length_append, List.length_take, List.length_singleton, List.length_drop]; omega)
    have HCS : Hid (#[Value.bool x.gone, .slice (some ⟨rb, ro, none⟩) rn rc] = x.enc.toArray) := Lib.hid (by unfold Sk.E.enc; rw [hrv])
    have HSC : Hid (∀ W, Below wb.heap.size wb W → Dk.Src Sk.E.enc W (.slice (if c = (A + 1) then some ⟨g, 0, none⟩ else some ⟨g, (A + 1) * 2, none⟩) (L.length - (A + 1)) (c - (A + 1))) (L.drop (A + 1))) := Lib.hid fun W gW => by
     by_cases hcA : c = (A + 1)
     ·rw [if_pos hcA]; exact Dk.src_none g 0 (c - (A + 1)) (L.length - (A + 1)) (List.drop_eq_nil_of_le (by omega)) (by omega)
     ·rw [if_neg hcA]; exact Dk.src_drop Sk.enc_len (by decide) rfl (HC.out W gW) (c - (A + 1))
    have HFZ : Hid (∀ W, Below wb.heap.size wb W → W.frozen? ⟨p, 0, none⟩ = false) := Lib.hid fun W gW => frozen_of_row W p 0 _ _ (HR.out.kept gW).blk
    have HEND : Hid (∀ W u, Dk.Own 26 2 Sk.E.enc w1.heap.size W u ([] ++ L.take A ++ [x] ++ L.drop (A + 1)) → Below w1.heap.size w1 W → Sk.RL (Sk.More S w (W.setCell ⟨p, 0, none⟩ u)) B (W.setCell ⟨p, 0, none⟩ u) p u PT ∧ Sk.Off S w (W.setCell ⟨p, 0, none⟩ u)) := Lib.hid fun W u ho gW => by
     have hb : Below w.heap.size w W := HB0.out.trans ((G1.out.trans (gW.mono G1.out.size)).mono HB0.out.size)
     rw [HP.out]
     refine h.put hb (Nat.le_trans (by have := HB0.out.size; exact this) G1.out.size) ho fun y hy => ?_
     simp only [List.nil_append, List.mem_append, List.mem_singleton] at hy
     rcases hy with (hy | hy) | hy
     ·exact h.rows y (List.mem_of_mem_take hy)
     ·rw [hy]; exact HXR.out
     ·exact h.rows y (List.mem_of_mem_drop hy)
    go_wp2_with fail
    refine Sk.anyT_region 20 (S := (fun wx => wx.cell? ⟨p, 0, none⟩ = some (.slice (some ⟨g, 0, none⟩) L.length c) ∧ wx.cell? ⟨w.heap.size, 0, none⟩ = some (.bool x.gone) ∧ wx.cell? ⟨w.heap.size, 1, none⟩ = some (.slice (some ⟨rb, ro, none⟩) rn rc))) (by kernel_rfl) (HD.out _ HD1.out) (fun hHeld => ?_)
    refine Sk.anyT_take (i := 0) (v := ?_) rfl (by kernel_rfl) (by kernel_rfl) (by kernel_rfl) (by kernel_rfl) (fun _ _ _ h => h) (Or.inl ⟨by rfl, ?_⟩) (by assumption) ?_
    rotate_left
    ·(intro wx hSw; (try dsimp only at hSw); go_simp; (try with_reducible rfl))
    try simp only [Act.put, List.getElem_toArray, List.getElem_cons_zero, List.getElem_cons_succ, List.setIfInBounds_toArray, List.set_cons_zero, List.set_cons_succ]
    refine Sk.anyT_take (i := 1) (v := ?_) rfl (by kernel_rfl) (by kernel_rfl) (by kernel_rfl) (by kernel_rfl) (fun _ _ _ h => h) (Or.inl ⟨by rfl, ?_⟩) (by assumption) ?_
    rotate_left
    ·(intro wx hSw; (try dsimp only at hSw); go_simp; (try with_reducible rfl))
    try simp only [Act.put, List.getElem_toArray, List.getElem_cons_zero, List.getElem_cons_succ, List.setIfInBounds_toArray, List.set_cons_zero, List.set_cons_succ]
    refine Sk.anyT_take (i := 2) (v := ?_) rfl (by kernel_rfl) (by kernel_rfl) (by kernel_rfl) (by kernel_rfl) (fun _ _ _ h => h) (Or.inl ⟨by rfl, ?_⟩) (by assumption) ?_
    rotate_left
    ·(intro wx hSw; (try dsimp only at hSw); go_simp; (try with_reducible rfl))
    try simp only [Act.put, List.getElem_toArray, List.getElem_cons_zero, List.getElem_cons_succ, List.setIfInBounds_toArray, List.set_cons_zero, List.set_cons_succ]
    refine Sk.anyT_take (i := 3) (v := ?_) rfl (by kernel_rfl) (by kernel_rfl) (by kernel_rfl) (by kernel_rfl) (fun _ _ _ h => h) (Or.inl ⟨by rfl, ?_⟩) (by assumption) ?_
    rotate_left
    ·(intro wx hSw; (try dsimp only at hSw); go_simp; (try with_reducible rfl))
    try simp only [Act.put, List.getElem_toArray, List.getElem_cons_zero, List.getElem_cons_succ, List.setIfInBounds_toArray, List.set_cons_zero, List.set_cons_succ]
    refine Sk.anyT_take (i := 4) (v := ?_) rfl (by kernel_rfl) (by kernel_rfl) (by kernel_rfl) (by kernel_rfl) (fun _ _ _ h => h) (Or.inl ⟨by rfl, ?_⟩) (by assumption) ?_
    rotate_left
    ·(intro wx hSw; (try dsimp only at hSw); go_simp; (try with_reducible rfl))
    try simp only [Act.put, List.getElem_toArray, List.getElem_cons_zero, List.getElem_cons_succ, List.setIfInBounds_toArray, List.set_cons_zero, List.set_cons_succ]
    refine Sk.anyT_take (i := 5) (v := ?_) rfl (by kernel_rfl) (by kernel_rfl) (by kernel_rfl) (by kernel_rfl) (fun _ _ _ h => h) (Or.inl ⟨by rfl, ?_⟩) (by assumption) ?_
    rotate_left
    ·(intro wx hSw; (try dsimp only at hSw); go_simp; (try with_reducible rfl))
    try simp only [Act.put, List.getElem_toArray, List.getElem_cons_zero, List.getElem_cons_succ, List.setIfInBounds_toArray, List.set_cons_zero, List.set_cons_succ]
    refine Sk.anyT_take (i := 6) (v := ?_) rfl (by kernel_rfl) (by kernel_rfl) (by kernel_rfl) (by kernel_rfl) (fun _ _ _ h => h) (Or.inl ⟨by rfl, ?_⟩) (by assumption) ?_
    rotate_left
    ·(intro wx hSw; (try dsimp only at hSw); go_simp; (try with_reducible rfl))
    try simp only [Act.put, List.getElem_toArray, List.getElem_cons_zero, List.getElem_cons_succ, List.setIfInBounds_toArray, List.set_cons_zero, List.set_cons_succ]
    refine Sk.anyT_take (i := 8) (v := ?_) rfl (by kernel_rfl) (by kernel_rfl) (by kernel_rfl) (by kernel_rfl) (fun _ _ _ h => h) (Or.inl ⟨by rfl, ?_⟩) (by assumption) ?_
    rotate_left
    ·(intro wx hSw; (try dsimp only at hSw); go_simp; (try with_reducible rfl))
    try simp only [Act.put, List.getElem_toArray, List.getElem_cons_zero, List.getElem_cons_succ, List.setIfInBounds_toArray, List.set_cons_zero, List.set_cons_succ]
    refine Sk.anyT_take (i := 11) (v := ?_) rfl (by kernel_rfl) (by kernel_rfl) (by kernel_rfl) (by kernel_rfl) (fun _ _ _ h => h) (Or.inl ⟨by rfl, ?_⟩) (by assumption) ?_
    rotate_left
    ·(intro wx hSw; (try dsimp only at hSw); go_simp; (try with_reducible rfl))
    try simp only [Act.put, List.getElem_toArray, List.getElem_cons_zero, List.getElem_cons_succ, List.setIfInBounds_toArray, List.set_cons_zero, List.set_cons_succ]
    refine Sk.anyT_take (i := 12) (v := ?_) rfl (by kernel_rfl) (by kernel_rfl) (by kernel_rfl) (by kernel_rfl) (fun _ _ _ h => h) (Or.inl ⟨by rfl, ?_⟩) (by assumption) ?_
    rotate_left
    ·(intro wx hSw; (try dsimp only at hSw); go_simp; (try with_reducible rfl))
    try simp only [Act.put, List.getElem_toArray, List.getElem_cons_zero, List.getElem_cons_succ, List.setIfInBounds_toArray, List.set_cons_zero, List.set_cons_succ]
    refine Sk.anyT_take (i := 13) (v := ?_) rfl (by kernel_rfl) (by kernel_rfl) (by kernel_rfl) (by kernel_rfl) (fun _ _ _ h => h) (Or.inl ⟨by rfl, ?_⟩) (by assumption) ?_
    rotate_left
    ·(intro wx hSw; (try dsimp only at hSw); go_simp; (try with_reducible rfl))
    try simp only [Act.put, List.getElem_toArray, List.getElem_cons_zero, List.getElem_cons_succ, List.setIfInBounds_toArray, List.set_cons_zero, List.set_cons_succ]
    refine Sk.anyT_take (i := 14) (v := ?_) rfl (by kernel_rfl) (by kernel_rfl) (by kernel_rfl) (by kernel_rfl) (fun _ _ _ h => h) (Or.inl ⟨by rfl, ?_⟩) (by assumption) ?_
    rotate_left
    ·(intro wx hSw; (try dsimp only at hSw); go_simp; (try with_reducible rfl))
    try simp only [Act.put, List.getElem_toArray, List.getElem_cons_zero, List.getElem_cons_succ, List.setIfInBounds_toArray, List.set_cons_zero, List.set_cons_succ]
    refine Sk.anyT_take (i := 15) (v := ?_) rfl (by kernel_rfl) (by kernel_rfl) (by kernel_rfl) (by kernel_rfl) (fun _ _ _ h => h) (Or.inl ⟨by rfl, ?_⟩) (by assumption) ?_
    rotate_left
    ·(intro wx hSw; (try dsimp only at hSw); go_simp; (try with_reducible rfl))
    try simp only [Act.put, List.getElem_toArray, List.getElem_cons_zero, List.getElem_cons_succ, List.setIfInBounds_toArray, List.set_cons_zero, List.set_cons_succ]
    refine Sk.anyT_take (i := 16) (v := ?_) rfl (by kernel_rfl) (by kernel_rfl) (by kernel_rfl) (by kernel_rfl) (fun _ _ _ h => h) (Or.inl ⟨by rfl, ?_⟩) (by assumption) ?_
    rotate_left
    ·(intro wx hSw; (try dsimp only at hSw); go_simp; (try with_reducible rfl))
    try simp only [Act.put, List.getElem_toArray, List.getElem_cons_zero, List.getElem_cons_succ, List.setIfInBounds_toArray, List.set_cons_zero, List.set_cons_succ]
    have hu := HSA.out _ HD1.out
    have hlen : ([] : List Sk.E).length + (L.take A).length ≤ 4194304 := by have := HLB.out; simp only [List.length_nil, List.length_take]; omega
    refine Sk.anyT_two (i := 7) (k := 9) (o := ({ dst := some 32, op := Op.call { callee := Callee.builtin Builtin.append, args := #[Operand.const (Value.slice none 0 0), Operand.tmp 31], argTypes := #[28, 28] }, type := 28, pos := "ref.go:33", after := #[{ on := 6, ground := Ground.data }], guard := none } : Oper)) (u := ({ dst := some 34, op := Op.buildSlice 28 1 #[(0, Operand.tmp 33)], type := 28, pos := "ref.go:33", after := #[{ on := 8, ground := Ground.data }], guard := none } : Oper)) (by kernel_rfl) rfl rfl (by decide) (by decide) (fun K hK => ?_) (fun K hK => ?_)
    ·refine Sk.step_app (wo := w1) (M := []) (L.take A) HONE.out HD1w.out (Dk.Own.nil _ _) hlen _ _ _ (by rfl) (by rfl) (by rfl) (by rfl) hu ?_
     intro v1 wv1 o1 b1 g1
     refine hK.out _ _ (HD.out _ (HBB.out _ b1)) (fun hHeld => ?_)
     clear hK K
     try simp only [Act.put, List.getElem_toArray, List.getElem_cons_zero, List.getElem_cons_succ, List.setIfInBounds_toArray, List.set_cons_zero, List.set_cons_succ]
     refine Sk.anyT_one (i := 9) (o := ({ dst := some 34, op := Op.buildSlice 28 1 #[(0, Operand.tmp 33)], type := 28, pos := "ref.go:33", after := #[{ on := 8, ground := Ground.data }], guard := none } : Oper)) (by kernel_rfl) rfl (by decide) (fun K hK => ?_)
     go_simp
     refine hK.out _ _ (HD.out _ ((HBB.out _ b1).alloc (HBB.out _ b1).size _)) (fun hHeld => ?_)
     clear hK K
     try simp only [Act.put, List.getElem_toArray, List.getElem_cons_zero, List.getElem_cons_succ, List.setIfInBounds_toArray, List.set_cons_zero, List.set_cons_succ]
     refine Sk.anyT_one (i := 10) (o := ({ dst := some 35, op := Op.call { callee := Callee.builtin Builtin.append, args := #[Operand.tmp 32, Operand.tmp 34], argTypes := #[28, 28] }, type := 28, pos := "ref.go:33", after := #[{ on := 7, ground := Ground.data }, { on := 9, ground := Ground.data }, { on := 7, ground := Ground.chain }], guard := none } : Oper)) (by kernel_rfl) rfl (by decide) (fun K hK => ?_)
     refine Sk.step_app (wo := w1) (M := [] ++ L.take A) [x] HONX.out (b1.alloc b1.size _) (World.ownsRow.alloc o1 _) HL2.out _ _ _ (by rfl) (by rfl) (by rfl) (by rfl) (Dk.src_one wv1 x _ HCS.out _) ?_
     intro v2 wv2 o2 b2 g2
     refine hK.out _ _ (HD.out _ (HBB.out _ b2)) (fun hHeld => ?_)
     clear hK K
     try simp only [Act.put, List.getElem_toArray, List.getElem_cons_zero, List.getElem_cons_succ, List.setIfInBounds_toArray, List.set_cons_zero, List.set_cons_succ]
     refine Sk.anyT_one (i := 17) (o := ({ dst := some 42, op := Op.call { callee := Callee.builtin Builtin.append, args := #[Operand.tmp 35, Operand.tmp 41], argTypes := #[28, 28] }, type := 28, pos := "ref.go:33", after := #[{ on := 10, ground := Ground.data }, { on := 16, ground := Ground.data }, { on := 10, ground := Ground.chain }], guard := none } : Oper)) (by kernel_rfl) rfl (by decide) (fun K hK => ?_)
     refine Sk.step_app (wo := w1) (M := [] ++ L.take A ++ [x]) (L.drop (A + 1)) HON3.out b2 o2 HL3.out _ _ _ (by rfl) (by rfl) (by rfl) (by rfl) (HSC.out _ (HBB.out _ b2)) ?_
     intro v3 wv3 o3 b3 g3
     obtain ⟨g9, n9, c9, rfl⟩ := Sk.own_some o3 (by simp)
     refine hK.out _ _ (HD.out _ (HBB.out _ b3)) (fun hHeld => ?_)
     clear hK K
     try simp only [Act.put, List.getElem_toArray, List.getElem_cons_zero, List.getElem_cons_succ, List.setIfInBounds_toArray, List.set_cons_zero, List.set_cons_succ]
     refine Sk.anyT_one (i := 18) (o := ({ dst := some 43, op := Op.nilCheck (Operand.tmp 25), type := 0, pos := "ref.go:33", after := #[{ on := 0, ground := Ground.data }, { on := 0, ground := Ground.phase }, { on := 1, ground := Ground.phase }, { on := 2, ground := Ground.phase }, { on := 3, ground := Ground.phase }, { on := 4, ground := Ground.phase }, { on := 5, ground := Ground.phase }, { on := 6, ground := Ground.phase }, { on := 7, ground := Ground.phase }, { on := 8, ground := Ground.phase }, { on := 9, ground := Ground.phase }, { on := 10, ground := Ground.phase }, { on := 11, ground := Ground.phase }, { on := 12, ground := Ground.phase }, { on := 13, ground := Ground.phase }, { on := 14, ground := Ground.phase }, { on := 15, ground := Ground.phase }, { on := 16, ground := Ground.phase }, { on := 17, ground := Ground.phase }], guard := none } : Oper)) (by kernel_rfl) rfl (by decide) (fun K hK => ?_)
     go_simp
     refine hK.out _ _ (HD.out _ (HBB.out _ b3)) (fun hHeld => ?_)
     clear hK K
     try simp only [Act.put, List.getElem_toArray, List.getElem_cons_zero, List.getElem_cons_succ, List.setIfInBounds_toArray, List.set_cons_zero, List.set_cons_succ]
     refine Sk.anyT_one (i := 19) (o := ({ dst := some 44, op := Op.fieldAddr 68 (Operand.tmp 43) 0, type := 0, pos := "ref.go:33", after := #[{ on := 18, ground := Ground.data }, { on := 0, ground := Ground.phase }, { on := 1, ground := Ground.phase }, { on := 2, ground := Ground.phase }, { on := 3, ground := Ground.phase }, { on := 4, ground := Ground.phase }, { on := 5, ground := Ground.phase }, { on := 6, ground := Ground.phase }, { on := 7, ground := Ground.phase }, { on := 8, ground := Ground.phase }, { on := 9, ground := Ground.phase }, { on := 10, ground := Ground.phase }, { on := 11, ground := Ground.phase }, { on := 12, ground := Ground.phase }, { on := 13, ground := Ground.phase }, { on := 14, ground := Ground.phase }, { on := 15, ground := Ground.phase }, { on := 16, ground := Ground.phase }, { on := 17, ground := Ground.phase }], guard := none } : Oper)) (by kernel_rfl) rfl (by decide) (fun K hK => ?_)
     go_simp
     refine hK.out _ _ (HD.out _ (HBB.out _ b3)) (fun hHeld => ?_)
     clear hK K
     try simp only [Act.put, List.getElem_toArray, List.getElem_cons_zero, List.getElem_cons_succ, List.setIfInBounds_toArray, List.set_cons_zero, List.set_cons_succ]
     obtain ⟨c0', _, _⟩ := HD.out _ (HBB.out _ b3)
     have hfz := HFZ.out _ (HBB.out _ b3)
     refine Sk.anyT_last (o := ({ dst := none, op := Op.store 28 (Operand.tmp 44) (Operand.tmp 42), type := 0, pos := "ref.go:33", after := #[{ on := 19, ground := Ground.data }, { on := 17, ground := Ground.data }, { on := 17, ground := Ground.chain }, { on := 0, ground := Ground.phase }, { on := 1, ground := Ground.phase }, { on := 2, ground := Ground.phase }, { on := 3, ground := Ground.phase }, { on := 4, ground := Ground.phase }, { on := 5, ground := Ground.phase }, { on := 6, ground := Ground.phase }, { on := 7, ground := Ground.phase }, { on := 8, ground := Ground.phase }, { on := 9, ground := Ground.phase }, { on := 10, ground := Ground.phase }, { on := 11, ground := Ground.phase }, { on := 12, ground := Ground.phase }, { on := 13, ground := Ground.phase }, { on := 14, ground := Ground.phase }, { on := 15, ground := Ground.phase }, { on := 16, ground := Ground.phase }, { on := 17, ground := Ground.phase }], guard := none } : Oper)) (by kernel_rfl) rfl (fun K hK => ?_)
     go_simp
     refine hK.out _ _ ?_
     clear hK K
     try simp only [Act.put, List.getElem_toArray, List.getElem_cons_zero, List.getElem_cons_succ, List.setIfInBounds_toArray, List.set_cons_zero, List.set_cons_succ]
     refine Sk.anyT_done (by kernel_rfl) ?_ _
     have HFIN := Lib.hid (HEND.out _ _ o3 b3)
     clear o3 b3 g3 o2 b2 g2 c0' hfz hHeld
     clear hql hqq hqz hqc hqci hAm hAc hci hcl hlen hA0 hAi hAl
     go_wp2
     all_goals
      go_ret
      exact ⟨rfl, ⟨_, HFIN.out.1⟩, HFIN.out.2⟩
    ·go_simp
     refine hK.out _ _ (HD.out _ (HD1.out.alloc HD1.out.size _)) (fun hHeld => ?_)
     clear hK K
     try simp only [Act.put, List.getElem_toArray, List.getElem_cons_zero, List.getElem_cons_succ, List.setIfInBounds_toArray, List.set_cons_zero, List.set_cons_succ]
     refine Sk.anyT_one (i := 7) (o := ({ dst := some 32, op := Op.call { callee := Callee.builtin Builtin.append, args := #[Operand.const (Value.slice none 0 0), Operand.tmp 31], argTypes := #[28, 28] }, type := 28, pos := "ref.go:33", after := #[{ on := 6, ground := Ground.data }], guard := none } : Oper)) (by kernel_rfl) rfl (by decide) (fun K hK => ?_)
     refine Sk.step_app (wo := w1) (M := []) (L.take A) HONE.out (HD1w.out.alloc HD1w.out.size _) (Dk.Own.nil _ _) hlen _ _ _ (by rfl) (by rfl) (by rfl) (by rfl) (HSA.out _ (HD1.out.alloc HD1.out.size _)) ?_
     intro v1 wv1 o1 b1 g1
     refine hK.out _ _ (HD.out _ (HBB.out _ b1)) (fun hHeld => ?_)
     clear hK K
     try simp only [Act.put, List.getElem_toArray, List.getElem_cons_zero, List.getElem_cons_succ, List.setIfInBounds_toArray, List.set_cons_zero, List.set_cons_succ]
     refine Sk.anyT_one (i := 10) (o := ({ dst := some 35, op := Op.call { callee := Callee.builtin Builtin.append, args := #[Operand.tmp 32, Operand.tmp 34], argTypes := #[28, 28] }, type := 28, pos := "ref.go:33", after := #[{ on := 7, ground := Ground.data }, { on := 9, ground := Ground.data }, { on := 7, ground := Ground.chain }], guard := none } : Oper)) (by kernel_rfl) rfl (by decide) (fun K hK => ?_)
     refine Sk.step_app (wo := w1) (M := [] ++ L.take A) [x] HONX.out b1 o1 HL2.out _ _ _ (by rfl) (by rfl) (by rfl) (by rfl) (Dk.src_cell fun j y hj => Dk.cell_kept g1 (Dk.cell_new HCS.out j y hj)) ?_
     intro v2 wv2 o2 b2 g2
     refine hK.out _ _ (HD.out _ (HBB.out _ b2)) (fun hHeld => ?_)
     clear hK K
     try simp only [Act.put, List.getElem_toArray, List.getElem_cons_zero, List.getElem_cons_succ, List.setIfInBounds_toArray, List.set_cons_zero, List.set_cons_succ]
     refine Sk.anyT_one (i := 17) (o := ({ dst := some 42, op := Op.call { callee := Callee.builtin Builtin.append, args := #[Operand.tmp 35, Operand.tmp 41], argTypes := #[28, 28] }, type := 28, pos := "ref.go:33", after := #[{ on := 10, ground := Ground.data }, { on := 16, ground := Ground.data }, { on := 10, ground := Ground.chain }], guard := none } : Oper)) (by kernel_rfl) rfl (by decide) (fun K hK => ?_)
     refine Sk.step_app (wo := w1) (M := [] ++ L.take A ++ [x]) (L.drop (A + 1)) HON3.out b2 o2 HL3.out _ _ _ (by rfl) (by rfl) (by rfl) (by rfl) (HSC.out _ (HBB.out _ b2)) ?_
     intro v3 wv3 o3 b3 g3
     obtain ⟨g9, n9, c9, rfl⟩ := Sk.own_some o3 (by simp)
     refine hK.out _ _ (HD.out _ (HBB.out _ b3)) (fun hHeld => ?_)
     clear hK K
     try simp only [Act.put, List.getElem_toArray, List.getElem_cons_zero, List.getElem_cons_succ, List.setIfInBounds_toArray, List.set_cons_zero, List.set_cons_succ]
     refine Sk.anyT_one (i := 18) (o := ({ dst := some 43, op := Op.nilCheck (Operand.tmp 25), type := 0, pos := "ref.go:33", after := #[{ on := 0, ground := Ground.data }, { on := 0, ground := Ground.phase }, { on := 1, ground := Ground.phase }, { on := 2, ground := Ground.phase }, { on := 3, ground := Ground.phase }, { on := 4, ground := Ground.phase }, { on := 5, ground := Ground.phase }, { on := 6, ground := Ground.phase }, { on := 7, ground := Ground.phase }, { on := 8, ground := Ground.phase }, { on := 9, ground := Ground.phase }, { on := 10, ground := Ground.phase }, { on := 11, ground := Ground.phase }, { on := 12, ground := Ground.phase }, { on := 13, ground := Ground.phase }, { on := 14, ground := Ground.phase }, { on := 15, ground := Ground.phase }, { on := 16, ground := Ground.phase }, { on := 17, ground := Ground.phase }], guard := none } : Oper)) (by kernel_rfl) rfl (by decide) (fun K hK => ?_)
     go_simp
     refine hK.out _ _ (HD.out _ (HBB.out _ b3)) (fun hHeld => ?_)
     clear hK K
     try simp only [Act.put, List.getElem_toArray, List.getElem_cons_zero, List.getElem_cons_succ, List.setIfInBounds_toArray, List.set_cons_zero, List.set_cons_succ]
     refine Sk.anyT_one (i := 19) (o := ({ dst := some 44, op := Op.fieldAddr 68 (Operand.tmp 43) 0, type := 0, pos := "ref.go:33", after := #[{ on := 18, ground := Ground.data }, { on := 0, ground := Ground.phase }, { on := 1, ground := Ground.phase }, { on := 2, ground := Ground.phase }, { on := 3, ground := Ground.phase }, { on := 4, ground := Ground.phase }, { on := 5, ground := Ground.phase }, { on := 6, ground := Ground.phase }, { on := 7, ground := Ground.phase }, { on := 8, ground := Ground.phase }, { on := 9, ground := Ground.phase }, { on := 10, ground := Ground.phase }, { on := 11, ground := Ground.phase }, { on := 12, ground := Ground.phase }, { on := 13, ground := Ground.phase }, { on := 14, ground := Ground.phase }, { on := 15, ground := Ground.phase }, { on := 16, ground := Ground.phase }, { on := 17, ground := Ground.phase }], guard := none } : Oper)) (by kernel_rfl) rfl (by decide) (fun K hK => ?_)
     go_simp
     refine hK.out _ _ (HD.out _ (HBB.out _ b3)) (fun hHeld => ?_)
     clear hK K
     try simp only [Act.put, List.getElem_toArray, List.getElem_cons_zero, List.getElem_cons_succ, List.setIfInBounds_toArray, List.set_cons_zero, List.set_cons_succ]
     obtain ⟨c0', _, _⟩ := HD.out _ (HBB.out _ b3)
     have hfz := HFZ.out _ (HBB.out _ b3)
     refine Sk.anyT_last (o := ({ dst := none, op := Op.store 28 (Operand.tmp 44) (Operand.tmp 42), type := 0, pos := "ref.go:33", after := #[{ on := 19, ground := Ground.data }, { on := 17, ground := Ground.data }, { on := 17, ground := Ground.chain }, { on := 0, ground := Ground.phase }, { on := 1, ground := Ground.phase }, { on := 2, ground := Ground.phase }, { on := 3, ground := Ground.phase }, { on := 4, ground := Ground.phase }, { on := 5, ground := Ground.phase }, { on := 6, ground := Ground.phase }, { on := 7, ground := Ground.phase }, { on := 8, ground := Ground.phase }, { on := 9, ground := Ground.phase }, { on := 10, ground := Ground.phase }, { on := 11, ground := Ground.phase }, { on := 12, ground := Ground.phase }, { on := 13, ground := Ground.phase }, { on := 14, ground := Ground.phase }, { on := 15, ground := Ground.phase }, { on := 16, ground := Ground.phase }, { on := 17, ground := Ground.phase }], guard := none } : Oper)) (by kernel_rfl) rfl (fun K hK => ?_)
     go_simp
     refine hK.out _ _ ?_
     clear hK K
     try simp only [Act.put, List.getElem_toArray, List.getElem_cons_zero, List.getElem_cons_succ, List.setIfInBounds_toArray, List.set_cons_zero, List.set_cons_succ]
     refine Sk.anyT_done (by kernel_rfl) ?_ _
     have HFIN := Lib.hid (HEND.out _ _ o3 b3)
     clear o3 b3 g3 o2 b2 g2 c0' hfz hHeld
     clear hql hqq hqz hqc hqci hAm hAc hci hcl hlen hA0 hAi hAl
     go_wp2
     all_goals
      go_ret
      exact ⟨rfl, ⟨_, HFIN.out.1⟩, HFIN.out.2⟩
end Go.Proofs.YtkhiemkekmdhgaaGreatDoor
