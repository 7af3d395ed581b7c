import Derived.Test.YthfgcilaikjhpaaZBAE
import Derived.Lib.QuietBelow
import Derived.BigQuiet
namespace Go.Proofs.Ythfgcilaikjhpaa
open Go Go.RowKit
theorem Mf.ap_mono {s t : Mf.S} {e : Mf.E} (h : Mf.ap s e = some t) : s.floor ≤ t.floor ∧ s.next ≤ t.next := by
 obtain ⟨_, h1, h2, h3, h4, _⟩ := Mf.ap_some h
 rw [h3, h4]
 exact ⟨h1, h2⟩
theorem Mf.Ok.ne {s : Mf.S} (h : Mf.Ok s) {i j : Nat} {p q : Mf.P} (hi : s.parts[i]? = some p) (hj : s.parts[j]? = some q) (hij : i < j) : p.id ≠ q.id := fun e => by
 have h1 : (s.parts.map (·.id))[i]? = some p.id := by rw [List.getElem?_map, hi]; rfl
 have h2 : (s.parts.map (·.id))[j]? = some q.id := by rw [List.getElem?_map, hj]; rfl
 rw [e, ← h2] at h1
 have hl : i < (s.parts.map (·.id)).length := by
  rw [List.length_map]
  exact (List.getElem?_eq_some_iff.1 hi).1
 have := (List.getElem?_inj hl h.uniq).1 h1
 omega
set_option maxHeartbeats 8000000 in
set_option maxRecDepth 100000 in
theorem Mf.ids_w (v : Value) (L : List Mf.E) (w : World) (hL : Mf.Es w v L) :
 Calls Try.prog 4 #[v] w fun e w' => e = .returned (.bool true) ∧ Below w.heap.size w w' := by
 have HES := Lib.hid hL
 obtain ⟨a, c, rfl, -⟩ := hL
 have hll : ((L.length : Nat) : Int) = ((L.length : Nat) : Int) := rfl
 clear hll
 go_enter Try.func4, Try.ntmps4
 go_wp2_with fail
 with_reducible refine (Mf.lives_c w).mono ?_
 rintro e w1 ⟨rfl, g1⟩
 obtain ⟨w2, hw2⟩ : ∃ w2, w2 = w1.alloc (.cells #[.slice none 0 0, .int .i64 0, .int .i64 0] 26) := ⟨_, rfl⟩
 obtain ⟨p, hp⟩ : ∃ p, p = w1.heap.size := ⟨_, rfl⟩
 have hlp : Mf.Lp w w2 p (.slice none 0 0) ⟨[], 0, 0⟩ 0 := by
  have g2 : Below w1.heap.size w1 w2 := by rw [hw2]; exact (Below.refl _ _).alloc (Nat.le_refl _) _
  have hb := heap_alloc_new w1 (.cells #[.slice none 0 0, .int .i64 0, .int .i64 0] 26)
  rw [← hw2, ← hp] at hb
  exact ⟨hb, Mf.Ow.nil _ _, Mf.Gd.none, g1.trans (g2.mono g1.size), by have := g1.size; omega, by rw [hw2, World.size_alloc]; omega⟩
 have HLP := Lib.hid hlp
 clear g1 hlp
 go_wp2_with fail
 rw [← hw2]
 rw [← hp]
 clear hw2 hp
 go_loopw [4] (fun i wr => ∃ (k : Nat) (u : Value) (s : Mf.S), k ≤ L.length ∧ k ≤ 50 ∧ i = .int .i64 k ∧ Mf.Lp w wr p u s k) (fun i _ => L.length - (intOf i).toNat)
 case atStart => exact ⟨0, _, _, Nat.zero_le _, Nat.zero_le _, rfl, HLP.out⟩
 case round =>
  obtain ⟨k, u, s, hk, hk50, rfl, hlp⟩ := hrel
  have hk0 : (0 : Int) ≤ (k : Int) := by omega
  have HP := Lib.hid hlp
  obtain ⟨au, cu, rfl⟩ := hlp.own.ps.len_le
  have hk9 : (k : Int) ≤ 50 := by omega
  by_cases hgo : k < L.length ∧ k < 50
  ·obtain ⟨hkl, hk5⟩ := hgo
   have hx := List.getElem?_eq_getElem hkl
   generalize L[k] = e at hx
   obtain ⟨b, o, vd, va, rfl, hEC, hD, hA⟩ := (HES.out.kept hlp.below).at_ hx
   have hki : (k : Int) < (L.length : Int) := by omega
   have hki5 : (k : Int) < 50 := by omega
   have HDR : Hid (Below wr.heap.size wr wr.drew) := Lib.hid (Kn.below_drewN (Below.refl _ _) 1)
   have CA := Lib.hid (Mf.apply_c (.slice au s.parts.length cu) vd va s e wr.drew (hlp.own.ps.kept HDR.out) (hD.kept HDR.out) (hA.kept HDR.out) hlp.gd.ids (by have := hlp.gd.len; omega))
   have HS0 : Hid ((wr.drew.cell? ⟨p, 0, none⟩ = some (.slice au s.parts.length cu) ∧ wr.drew.cell? ⟨p, 1, none⟩ = some (.int .i64 s.floor) ∧ wr.drew.cell? ⟨p, 2, none⟩ = some (.int .i64 s.next)) ∧ wr.drew.cell? ⟨b, o + k * 4, none⟩ = some vd ∧ wr.drew.cell? ⟨b, o + k * 4 + 1, none⟩ = some va ∧ wr.drew.cell? ⟨b, o + k * 4 + 2, none⟩ = some (.int .i64 e.floor) ∧ wr.drew.cell? ⟨b, o + k * 4 + 3, none⟩ = some (.int .i64 e.next)) := Lib.hid (by
    obtain ⟨c0, c1, c2, c3⟩ := hEC.kept HDR.out
    exact ⟨(Mf.three (hlp.kept HDR.out).box).1, c0, c1, c2, c3⟩)
   have HS1 : Hid (∀ W, Below wr.drew.heap.size wr.drew W → (W.cell? ⟨p, 0, none⟩ = some (.slice au s.parts.length cu) ∧ W.cell? ⟨p, 1, none⟩ = some (.int .i64 s.floor) ∧ W.cell? ⟨p, 2, none⟩ = some (.int .i64 s.next)) ∧ W.cell? ⟨b, o + k * 4, none⟩ = some vd ∧ W.cell? ⟨b, o + k * 4 + 1, none⟩ = some va ∧ W.cell? ⟨b, o + k * 4 + 2, none⟩ = some (.int .i64 e.floor) ∧ W.cell? ⟨b, o + k * 4 + 3, none⟩ = some (.int .i64 e.next)) := Lib.hid fun W g => by
    obtain ⟨c0, c1, c2, c3⟩ := (hEC.kept HDR.out).kept g
    exact ⟨(Mf.three ((hlp.kept HDR.out).kept g).box).1, c0, c1, c2, c3⟩
   have HSTEP := Lib.hid fun (t : Mf.S) (h : Mf.ap s e = some t) => hlp.gd.step h
   have HMON := Lib.hid fun (t : Mf.S) (h : Mf.ap s e = some t) => Mf.ap_mono h
   have HDA : Hid (Below wr.drew.heap.size wr.drew (wr.alloc (.cells #[.slice none 0 0, .int .i64 0, .int .i64 0] 26)).drew) := Lib.hid ((Below.refl wr.drew.heap.size wr.drew).alloc (Nat.le_refl _) _)
   have CB := Lib.hid (Mf.apply_c (.slice au s.parts.length cu) vd va s e (wr.alloc (.cells #[.slice none 0 0, .int .i64 0, .int .i64 0] 26)).drew ((hlp.own.ps.kept HDR.out).kept HDA.out) ((hD.kept HDR.out).kept HDA.out) ((hA.kept HDR.out).kept HDA.out) hlp.gd.ids (by have := hlp.gd.len; omega))
   have HSP : Hid (p + 1 ≤ wr.heap.size) := Lib.hid hlp.size
   have HSA : Hid ((wr.alloc (.cells #[.slice none 0 0, .int .i64 0, .int .i64 0] 26)).drew.heap.size = wr.heap.size + 1) := Lib.hid (World.size_alloc ..)
   have HAN : Hid ((wr.alloc (.cells #[.slice none 0 0, .int .i64 0, .int .i64 0] 26)).drew.heap[wr.heap.size]? = some (.cells #[.slice none 0 0, .int .i64 0, .int .i64 0] 26 (0, 0))) := Lib.hid (heap_alloc_new wr _)
   generalize Mf.ap s e = r at CA CB HSTEP HMON
   obtain ⟨SP, SF, SN⟩ := s
   obtain ⟨ED, EA, EF, EN⟩ := e
   unfold Mf.sv Mf.GotS at CA CB
   simp only at CA CB HS0 HS1 HP HSTEP HMON ⊢
   clear hx hlp hEC hD hA
   go_wp2_with fail
   go_region_held3 (fun W => (W.cell? ⟨p, 0, none⟩ = some (.slice au SP.length cu) ∧ W.cell? ⟨p, 1, none⟩ = some (.int .i64 SF) ∧ W.cell? ⟨p, 2, none⟩ = some (.int .i64 SN)) ∧ W.cell? ⟨b, o + k * 4, none⟩ = some vd ∧ W.cell? ⟨b, o + k * 4 + 1, none⟩ = some va ∧ W.cell? ⟨b, o + k * 4 + 2, none⟩ = some (.int .i64 EF) ∧ W.cell? ⟨b, o + k * 4 + 3, none⟩ = some (.int .i64 EN))
    (first
     | exact HS0.out
     | exact HS1.out _ HDA.out
     | exact HS1.out _ G3.out
     | exact HS1.out _ (G3.out.alloc G3.out.size _)
     | exact HS1.out _ (Mf.below3 (G3.out.alloc G3.out.size _) G3.out.size _ _ _)
     | exact HS1.out _ (Mf.below3 G3.out (Nat.le_refl _) _ _ _))
    (first
     | (go_at_call 6; (with_reducible refine CA.out.mono ?_); rintro e w3 ⟨u3, rfl, hu3, g3⟩; obtain ⟨a3, c3, rfl⟩ := hu3.ps.len_le; have HU3 := Lib.hid hu3; have G3 := Lib.hid g3; obtain ⟨⟨y0, y1, y2⟩, z0, z1, z2⟩ := Mf.three (heap_alloc_new w3 (.cells #[.slice none 0 0, .int .i64 0, .int .i64 0] 26)); clear hu3 g3)
     | (go_at_call 6; (with_reducible refine CB.out.mono ?_); rintro e w3 ⟨u3, rfl, hu3, g3⟩; obtain ⟨a3, c3, rfl⟩ := hu3.ps.len_le; have HU3 := Lib.hid hu3; have G4 := Lib.hid g3; have G3 := Lib.hid (HDA.out.trans (g3.mono HDA.out.size)); obtain ⟨⟨y0, y1, y2⟩, z0, z1, z2⟩ := Mf.three ((g3.block wr.heap.size (by rw [HSA.out]; omega)).trans HAN.out); clear hu3 g3))
   ·have NW := Lib.hid (Mf.Nw.a (p := p) (t := Mf.st r) HSP.out HU3.out G3.out)
    have HA0 := Lib.hid HU3.out
    clear HU3 G3
    obtain ⟨w5, hw5⟩ : ∃ w5, w5 = w3.alloc (.cells #[.slice a3 (Mf.st r).parts.length c3, .int .i64 (Mf.st r).floor, .int .i64 (Mf.st r).next] 26) := ⟨_, rfl⟩
    obtain ⟨q, hq⟩ : ∃ q, q = w3.heap.size := ⟨_, rfl⟩
    rw [← hw5, ← hq] at NW
    rw [← hw5]
    first
     | rw [← hq]
     | skip
    clear hw5 hq
    clear HA0 CA CB HS0 HS1 HDR HDA HSA HAN
    rcases r with _ | ⟨TP, TF, TN⟩
    ·have HM := Lib.hid (HP.out.kept NW.out.below).more
     obtain ⟨⟨d0, d1, d2⟩, -⟩ := Mf.three NW.out.box
     simp only [Mf.st, List.length_nil] at d0 d1 d2
     clear NW HSTEP HMON
     simp only [Mf.er]
     go_wp2
     go_roundw
     case rel => exact ⟨k + 1, _, _, by omega, by omega, by simp, HM.out⟩
     case measure => simp [intOf]; omega
    ·have HGD := Lib.hid (HSTEP.out _ rfl)
     have hm1 : ¬ TF < SF := by have := (HMON.out _ rfl).1; simp only at this; omega
     have hm2 : ¬ TN < SN := by have := (HMON.out _ rfl).2; simp only at this; omega
     have HP5 := Lib.hid (HP.out.kept NW.out.below)
     have HQ5 := Lib.hid NW.out.box
     have HO5 := Lib.hid NW.out.own
     obtain ⟨⟨b0, b1, b2⟩, -⟩ := Mf.three HP5.out.box
     obtain ⟨⟨d0, d1, d2⟩, -⟩ := Mf.three HQ5.out
     have hql : q < w5.heap.size := lt_of_block HQ5.out
     have HQL := Lib.hid hql
     have htl : (TP.length : Int) ≤ 51000 := by have := HGD.out.len; simp only at this; omega
     have HM := Lib.hid fun (W : World) (g : Below w5.heap.size w5 W) => (HP5.out.kept g).set (Below.refl W.heap.size W) (HO5.out.kept g) HGD.out
     clear NW HSTEP HMON hql
     simp only [Mf.er, Mf.st] at HM d0 d1 d2 HQ5 HO5 HGD ⊢
     go_wp2_with fail
     clear b0 b1 b2 d0 d1 d2 hm1 hm2
     go_loopw [7] (fun i2 w6 => ∃ (m : Nat), m ≤ TP.length ∧ i2 = .int .i64 m ∧ Below w5.heap.size w5 w6) (fun i2 _ => TP.length - (intOf i2).toNat)
     case atStart => exact ⟨0, Nat.zero_le _, rfl, Below.refl _ _⟩
     case round =>
      rename_i w6
      obtain ⟨m, hm, rfl, hB6⟩ := hrel
      have hm0 : (0 : Int) ≤ (m : Int) := by omega
      have HB6 := Lib.hid hB6
      obtain ⟨⟨d0, d1, d2⟩, -⟩ := Mf.three ((hB6.block q HQL.out).trans HQ5.out)
      by_cases hml : m < TP.length
      ·have hx := List.getElem?_eq_getElem hml
       generalize TP[m] = x at hx
       have hxb := HGD.out.ok.below x (List.mem_of_getElem? hx)
       simp only at hxb
       obtain ⟨b3, o3, rfl, ⟨p0, p1, p2, p3, p4, p5, p6, p7⟩⟩ := Mf.Ps.at_ (HO5.out.kept hB6).ps hx
       have hmi : (m : Int) < (TP.length : Int) := by omega
       have hd1 : decide (TN ≤ x.id) = false := decide_eq_false (by omega)
       have HX := Lib.hid hx
       have D0 := fun d os => cell_regrown d0 d os
       have D2 := fun d os => cell_regrown d2 d os
       have P0 := fun d os => cell_regrown p0 d os
       go_wp2_with fail
       clear p1 p2 p3 p4 p5 p6 p7 hx
       clear d0 d1 d2 p0
       refine wp_region_quiet_below (by kernel_rfl) (by kernel_rfl) ?_
       repeat (go_big_quiet_step (fail))
       refine wpQuiet_nil ?_
       intro wq hw'
       have HB7 := Lib.hid (HB6.out.trans ((Mf.below_reg3 hw').mono HB6.out.size))
       clear hw' D0 D2 P0 hd1
       go_wp2_with fail
       go_loopw [8] (fun i3 w8 => ∃ (j : Nat), j ≤ m ∧ i3 = .int .i64 j ∧ Below w5.heap.size w5 w8) (fun i3 _ => m - (intOf i3).toNat)
       case atStart => exact ⟨0, Nat.zero_le _, rfl, HB7.out⟩
       case round =>
        rename_i w8
        obtain ⟨j, hj, rfl, hB8⟩ := hrel
        have hj0 : (0 : Int) ≤ (j : Int) := by omega
        have HB8 := Lib.hid hB8
        by_cases hjl : j < m
        ·have hji : (j : Int) < (m : Int) := by omega
         have hjt : (j : Int) < (TP.length : Int) := by omega
         have hjt2 : j < TP.length := by omega
         have hy := List.getElem?_eq_getElem hjt2
         generalize TP[j] = y at hy
         have hne := HGD.out.ok.ne hy HX.out hjl
         obtain ⟨⟨d0, d1, d2⟩, -⟩ := Mf.three ((hB8.block q HQL.out).trans HQ5.out)
         obtain ⟨b4, o4, e4, ⟨q0, q1, q2, q3, q4, q5, q6, q7⟩⟩ := Mf.Ps.at_ (HO5.out.kept hB8).ps hy
         obtain ⟨b9, o9, e9, ⟨p0, p1, p2, p3, p4, p5, p6, p7⟩⟩ := Mf.Ps.at_ (HO5.out.kept hB8).ps HX.out
         simp only [Option.some.injEq, Addr.mk.injEq, and_true] at e4 e9
         obtain ⟨rfl, rfl⟩ := e4
         obtain ⟨rfl, rfl⟩ := e9
         have hd1 : decide (y.id = x.id) = false := decide_eq_false hne
         have D0 := fun d os => cell_regrown d0 d os
         have P0 := fun d os => cell_regrown p0 d os
         have Q0 := fun d os => cell_regrown q0 d os
         go_wp2_with fail
         clear p1 p2 p3 p4 p5 p6 p7 q1 q2 q3 q4 q5 q6 q7 hy
         clear d0 d1 d2 p0 q0
         refine wp_region_quiet_below (by kernel_rfl) (by kernel_rfl) ?_
         repeat (go_big_quiet_step (fail))
         refine wpQuiet_nil ?_
         intro wq9 hw9
         have HB9 := Lib.hid (HB8.out.trans ((Mf.below_reg3 hw9).mono HB8.out.size))
         clear hw9 D0 P0 Q0
         go_wp2
         go_roundw
         case rel => exact ⟨j + 1, by omega, by simp, HB9.out⟩
         case measure => simp [intOf]; omega
        ·obtain rfl : j = m := by omega
         have hji : ¬ (j : Int) < (j : Int) := by omega
         clear hj hjl hj0 hB8
         go_wp2
         go_roundw
         case rel => exact ⟨j + 1, by omega, by simp, HB8.out⟩
         case measure => simp [intOf]; omega
      ·obtain rfl : m = TP.length := by omega
       have hmi : ¬ (TP.length : Int) < (TP.length : Int) := by omega
       obtain ⟨⟨b0, b1, b2⟩, f0, f1, f2⟩ := Mf.three (HP5.out.kept hB6).box
       have HMM := Lib.hid (HM.out _ hB6)
       clear hm hml hm0 hB6
       go_wp2
       go_roundw
       case rel => exact ⟨k + 1, _, _, by omega, by omega, by simp, HMM.out⟩
       case measure => simp [intOf]; omega
   ·have NW := Lib.hid (Mf.Nw.b (p := p) (t := Mf.st r) HSP.out HU3.out G4.out)
    have HA0 := Lib.hid HU3.out
    clear HU3 G3
    obtain ⟨w5, hw5⟩ : ∃ w5, w5 = ((w3.setCell ⟨wr.heap.size, 0, none⟩ (.slice a3 (Mf.st r).parts.length c3)).setCell ⟨wr.heap.size, 1, none⟩ (.int .i64 (Mf.st r).floor)).setCell ⟨wr.heap.size, 2, none⟩ (.int .i64 (Mf.st r).next) := ⟨_, rfl⟩
    obtain ⟨q, hq⟩ : ∃ q, q = wr.heap.size := ⟨_, rfl⟩
    rw [← hw5, ← hq] at NW
    rw [← hw5]
    first
     | rw [← hq]
     | skip
    clear hw5 hq
    clear HA0 CA CB HS0 HS1 HDR HDA HSA HAN
    rcases r with _ | ⟨TP, TF, TN⟩
    ·have HM := Lib.hid (HP.out.kept NW.out.below).more
     obtain ⟨⟨d0, d1, d2⟩, -⟩ := Mf.three NW.out.box
     simp only [Mf.st, List.length_nil] at d0 d1 d2
     clear NW HSTEP HMON
     simp only [Mf.er]
     go_wp2
     go_roundw
     case rel => exact ⟨k + 1, _, _, by omega, by omega, by simp, HM.out⟩
     case measure => simp [intOf]; omega
    ·have HGD := Lib.hid (HSTEP.out _ rfl)
     have hm1 : ¬ TF < SF := by have := (HMON.out _ rfl).1; simp only at this; omega
     have hm2 : ¬ TN < SN := by have := (HMON.out _ rfl).2; simp only at this; omega
     have HP5 := Lib.hid (HP.out.kept NW.out.below)
     have HQ5 := Lib.hid NW.out.box
     have HO5 := Lib.hid NW.out.own
     obtain ⟨⟨b0, b1, b2⟩, -⟩ := Mf.three HP5.out.box
     obtain ⟨⟨d0, d1, d2⟩, -⟩ := Mf.three HQ5.out
     have hql : q < w5.heap.size := lt_of_block HQ5.out
     have HQL := Lib.hid hql
     have htl : (TP.length : Int) ≤ 51000 := by have := HGD.out.len; simp only at this; omega
     have HM := Lib.hid fun (W : World) (g : Below w5.heap.size w5 W) => (HP5.out.kept g).set (Below.refl W.heap.size W) (HO5.out.kept g) HGD.out
     clear NW HSTEP HMON hql
     simp only [Mf.er, Mf.st] at HM d0 d1 d2 HQ5 HO5 HGD ⊢
     go_wp2_with fail
     clear b0 b1 b2 d0 d1 d2 hm1 hm2
     go_loopw [7] (fun i2 w6 => ∃ (m : Nat), m ≤ TP.length ∧ i2 = .int .i64 m ∧ Below w5.heap.size w5 w6) (fun i2 _ => TP.length - (intOf i2).toNat)
     case atStart => exact ⟨0, Nat.zero_le _, rfl, Below.refl _ _⟩
     case round =>
      rename_i w6
      obtain ⟨m, hm, rfl, hB6⟩ := hrel
      have hm0 : (0 : Int) ≤ (m : Int) := by omega
      have HB6 := Lib.hid hB6
      obtain ⟨⟨d0, d1, d2⟩, -⟩ := Mf.three ((hB6.block q HQL.out).trans HQ5.out)
      by_cases hml : m < TP.length
      ·have hx := List.getElem?_eq_getElem hml
       generalize TP[m] = x at hx
       have hxb := HGD.out.ok.below x (List.mem_of_getElem? hx)
       simp only at hxb
       obtain ⟨b3, o3, rfl, ⟨p0, p1, p2, p3, p4, p5, p6, p7⟩⟩ := Mf.Ps.at_ (HO5.out.kept hB6).ps hx
       have hmi : (m : Int) < (TP.length : Int) := by omega
       have hd1 : decide (TN ≤ x.id) = false := decide_eq_false (by omega)
       have HX := Lib.hid hx
       have D0 := fun d os => cell_regrown d0 d os
       have D2 := fun d os => cell_regrown d2 d os
       have P0 := fun d os => cell_regrown p0 d os
       go_wp2_with fail
       clear p1 p2 p3 p4 p5 p6 p7 hx
       clear d0 d1 d2 p0
       refine wp_region_quiet_below (by kernel_rfl) (by kernel_rfl) ?_
       repeat (go_big_quiet_step (fail))
       refine wpQuiet_nil ?_
       intro wq hw'
       have HB7 := Lib.hid (HB6.out.trans ((Mf.below_reg3 hw').mono HB6.out.size))
       clear hw' D0 D2 P0 hd1
       go_wp2_with fail
       go_loopw [8] (fun i3 w8 => ∃ (j : Nat), j ≤ m ∧ i3 = .int .i64 j ∧ Below w5.heap.size w5 w8) (fun i3 _ => m - (intOf i3).toNat)
       case atStart => exact ⟨0, Nat.zero_le _, rfl, HB7.out⟩
       case round =>
        rename_i w8
        obtain ⟨j, hj, rfl, hB8⟩ := hrel
        have hj0 : (0 : Int) ≤ (j : Int) := by omega
        have HB8 := Lib.hid hB8
        by_cases hjl : j < m
        ·have hji : (j : Int) < (m : Int) := by omega
         have hjt : (j : Int) < (TP.length : Int) := by omega
         have hjt2 : j < TP.length := by omega
         have hy := List.getElem?_eq_getElem hjt2
         generalize TP[j] = y at hy
         have hne := HGD.out.ok.ne hy HX.out hjl
         obtain ⟨⟨d0, d1, d2⟩, -⟩ := Mf.three ((hB8.block q HQL.out).trans HQ5.out)
         obtain ⟨b4, o4, e4, ⟨q0, q1, q2, q3, q4, q5, q6, q7⟩⟩ := Mf.Ps.at_ (HO5.out.kept hB8).ps hy
         obtain ⟨b9, o9, e9, ⟨p0, p1, p2, p3, p4, p5, p6, p7⟩⟩ := Mf.Ps.at_ (HO5.out.kept hB8).ps HX.out
         simp only [Option.some.injEq, Addr.mk.injEq, and_true] at e4 e9
         obtain ⟨rfl, rfl⟩ := e4
         obtain ⟨rfl, rfl⟩ := e9
         have hd1 : decide (y.id = x.id) = false := decide_eq_false hne
         have D0 := fun d os => cell_regrown d0 d os
         have P0 := fun d os => cell_regrown p0 d os
         have Q0 := fun d os => cell_regrown q0 d os
         go_wp2_with fail
         clear p1 p2 p3 p4 p5 p6 p7 q1 q2 q3 q4 q5 q6 q7 hy
         clear d0 d1 d2 p0 q0
         refine wp_region_quiet_below (by kernel_rfl) (by kernel_rfl) ?_
         repeat (go_big_quiet_step (fail))
         refine wpQuiet_nil ?_
         intro wq9 hw9
         have HB9 := Lib.hid (HB8.out.trans ((Mf.below_reg3 hw9).mono HB8.out.size))
         clear hw9 D0 P0 Q0
         go_wp2
         go_roundw
         case rel => exact ⟨j + 1, by omega, by simp, HB9.out⟩
         case measure => simp [intOf]; omega
        ·obtain rfl : j = m := by omega
         have hji : ¬ (j : Int) < (j : Int) := by omega
         clear hj hjl hj0 hB8
         go_wp2
         go_roundw
         case rel => exact ⟨j + 1, by omega, by simp, HB8.out⟩
         case measure => simp [intOf]; omega
      ·obtain rfl : m = TP.length := by omega
       have hmi : ¬ (TP.length : Int) < (TP.length : Int) := by omega
       obtain ⟨⟨b0, b1, b2⟩, f0, f1, f2⟩ := Mf.three (HP5.out.kept hB6).box
       have HMM := Lib.hid (HM.out _ hB6)
       clear hm hml hm0 hB6
       go_wp2
       go_roundw
       case rel => exact ⟨k + 1, _, _, by omega, by omega, by simp, HMM.out⟩
       case measure => simp [intOf]; omega
  ·by_cases hkl : k < L.length
   ·have hki : (k : Int) < (L.length : Int) := by omega
    have hki5 : ¬ (k : Int) < 50 := by omega
    clear hlp
    go_wp2
    go_ret
    exact ⟨rfl, HP.out.below⟩
   ·have hki : ¬ (k : Int) < (L.length : Int) := by omega
    clear hlp
    go_wp2
    go_ret
    exact ⟨rfl, HP.out.below⟩
end Go.Proofs.Ythfgcilaikjhpaa
