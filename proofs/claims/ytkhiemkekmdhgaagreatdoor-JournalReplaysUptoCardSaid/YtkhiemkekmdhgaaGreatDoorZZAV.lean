import Derived.Test.YtkhiemkekmdhgaaGreatDoorZZAU
import Derived.Laws.Rows
import Derived.Laws.Tables
import Derived.Laws.CopyOwn
import Derived.BigRegion
namespace Go.Proofs.YtkhiemkekmdhgaaGreatDoor
section
open Go Go.RowKit
def Sk.ad (q : Nat × Nat) : Value := .pointer (some ⟨q.1, q.2, none⟩)
def Sk.pa (p : Nat) (L : List Sk.Nd) (i j : Nat) : Value := if i ≤ j then Sk.ad (Sk.lst j (p, 0) L) else .pointer none
def Sk.paA (p : Nat) (L : List Sk.Nd) : Array Value := ((List.range 12).map (Sk.pa p L 0)).toArray
def Sk.nils : Array Value := #[.pointer none, .pointer none, .pointer none, .pointer none, .pointer none, .pointer none, .pointer none, .pointer none, .pointer none, .pointer none, .pointer none, .pointer none]
theorem Sk.nils_row (w : World) (p : Nat) (L : List Sk.Nd) (t : TypeId) : (w.alloc (.cells Sk.nils t)).rowIs w.heap.size t 12 (Sk.pa p L 12) := by
 have := World.rowIs_alloc w Sk.nils t (Sk.pa p L 12) (fun i hi => by
  have hi : i < 12 := hi
  unfold Sk.pa
  rw [if_neg (by omega)]
  rcases (by omega : i = 0 ∨ i = 1 ∨ i = 2 ∨ i = 3 ∨ i = 4 ∨ i = 5 ∨ i = 6 ∨ i = 7 ∨ i = 8 ∨ i = 9 ∨ i = 10 ∨ i = 11) with rfl | rfl | rfl | rfl | rfl | rfl | rfl | rfl | rfl | rfl | rfl | rfl <;> rfl)
 exact this
theorem Sk.row_all {w : World} {g p : Nat} {L : List Sk.Nd} {t : TypeId} (h : w.rowIs g t 12 (Sk.pa p L 0)) : w.heap[g]? = some (.cells (Sk.paA p L) t (0, 0)) := by
 obtain ⟨c, h1, h2, h3⟩ := h
 have : c = Sk.paA p L := by
  refine Array.ext (by rw [h2]; rfl) fun i hi1 hi2 => ?_
  have a1 := h3 i (by omega)
  have a2 : (Sk.paA p L)[i]? = some (Sk.pa p L 0 i) := by
   unfold Sk.paA
   rw [List.getElem?_toArray, List.getElem?_map, List.getElem?_range (by omega)]
   rfl
  rw [Array.getElem?_eq_getElem hi1] at a1
  rw [Array.getElem?_eq_getElem hi2] at a2
  rw [Option.some.inj a1, Option.some.inj a2]
 rw [← this]
 exact h1
theorem Sk.next_of {m : Nat} (C G : List Sk.Nd) : ((∀ c ∈ C, c.h ≤ m) ∧ Sk.lnk m (C ++ G) = none) ∨ ((∀ c ∈ C, c.h ≤ m) ∧ ∃ y ∈ G, Sk.lnk m (C ++ G) = some y.b) ∨ ∃ C1 y C2, C = C1 ++ y :: C2 ∧ m < y.h ∧ Sk.lnk m (C ++ G) = some y.b := by
 rcases Sk.first m C with ⟨_, h⟩ | ⟨C1, y, C2, rfl, h1, h2, _⟩
 ·rcases Sk.first m G with ⟨hn, _⟩ | ⟨G1, y, G2, rfl, _, _, hl⟩
  ·exact .inl ⟨h, by rw [Sk.lnk_low _ h, hn]⟩
  ·exact .inr (.inl ⟨h, y, by simp, by rw [Sk.lnk_low _ h, hl]⟩)
 ·refine .inr (.inr ⟨C1, y, C2, rfl, h2, ?_⟩)
  rw [List.append_assoc, Sk.lnk_low _ h1, List.cons_append, Sk.lnk, if_pos h2]
theorem Sk.take_lt {N : List Sk.Nd} {k : Kn.V} {y : Sk.Nd} (h : y ∈ N.take (Sk.at_ Sk.kn N k)) : Kn.cmp (Sk.kn y) k < 0 := by
 obtain ⟨i, hi, e⟩ := List.getElem_of_mem h
 rw [List.length_take] at hi
 rw [List.getElem_take] at e
 exact Sk.at_lt (key := Sk.kn) (L := N) (k := k) (i := i) (by omega) (by rw [List.getElem?_eq_getElem (by omega), e])
theorem Sk.drop_ge {N : List Sk.Nd} (ha : Sk.Asc Sk.kn N) {k : Kn.V} {y : Sk.Nd} (h : y ∈ N.drop (Sk.at_ Sk.kn N k)) : ¬ Kn.cmp (Sk.kn y) k < 0 := by
 obtain ⟨i, hi, e⟩ := List.getElem_of_mem h
 rw [List.length_drop] at hi
 rw [List.getElem_drop] at e
 have hy : N[Sk.at_ Sk.kn N k + i]? = some y := by rw [List.getElem?_eq_getElem (by omega), e]
 have hx : N[Sk.at_ Sk.kn N k]? = some (N[Sk.at_ Sk.kn N k]'(by omega)) := List.getElem?_eq_getElem _
 have h0 := Sk.at_ge hx
 rcases Nat.eq_zero_or_pos i with rfl | hp
 ·rw [Nat.add_zero, hx] at hy
  rw [Option.some.inj hy] at h0
  exact h0
 ·intro hlt
  have h1 := Sk.asc_behind ha (show Sk.at_ Sk.kn N k < Sk.at_ Sk.kn N k + i by omega) hx hy
  exact h0 (Sk.lt_trans h1 hlt)
theorem Sk.paA_one (p : Nat) (L : List Sk.Nd) : (Sk.paA p L).all (·.oneCell') = true := by
 have h : ∀ x ∈ (List.range 12).map (Sk.pa p L 0), x.oneCell' = true := fun x hx => by
  obtain ⟨j, _, rfl⟩ := List.mem_map.1 hx
  unfold Sk.pa
  rw [if_pos (Nat.zero_le _)]
  rfl
 unfold Sk.paA
 rw [List.all_toArray]
 exact List.all_eq_true.2 h
theorem Sk.paA_size (p : Nat) (L : List Sk.Nd) : (Sk.paA p L).size = 12 := by rfl
theorem Sk.pa_next {w : World} {g p m : Nat} {L : List Sk.Nd} {t : TypeId} (h : w.rowIs g t 12 (Sk.pa p L (m + 1))) : (w.setCell ⟨g, m, none⟩ (Sk.ad (Sk.lst m (p, 0) L))).rowIs g t 12 (Sk.pa p L m) :=
 (h.set m _).congr fun j _ => by
  unfold Sk.pa
  by_cases e : j = m
  ·rw [if_pos e, if_pos (by omega), e]
  ·rw [if_neg e]
   by_cases h2 : m + 1 ≤ j
   ·rw [if_pos h2, if_pos (by omega)]
   ·rw [if_neg h2, if_neg (by omega)]
set_option maxHeartbeats 8000000 in
set_option maxRecDepth 100000 in
theorem Sk.path_c {S : Nat → Prop} {w : World} {p : Nat} {N : List Sk.Nd} (h : Sk.PL S w p N) (k : Kn.V) :
 Calls Tryz.prog 61 #[.pointer (some ⟨p, 0, none⟩), k.val] w fun e w' => e = .returned (.agg (Sk.paA p (N.take (Sk.at_ Sk.kn N k)))) ∧ Below w.heap.size w w' := by
 obtain ⟨wa, hwa⟩ : ∃ wa, wa = w.alloc (.cells #[.bool k.null, .int .i64 k.n, .string k.s] 43) := ⟨_, rfl⟩
 obtain ⟨wb, hwb⟩ : ∃ wb, wb = wa.alloc (.cells Sk.nils 112) := ⟨_, rfl⟩
 obtain ⟨w3, hw3⟩ : ∃ w3, w3 = wb.alloc (.cells Sk.nils 112) := ⟨_, rfl⟩
 have hsa : wa.heap.size = w.heap.size + 1 := by rw [hwa]; exact World.size_alloc ..
 have hsb : wb.heap.size = w.heap.size + 2 := by rw [hwb, World.size_alloc]; omega
 have hs3 : w3.heap.size = w.heap.size + 3 := by rw [hw3, World.size_alloc]; omega
 have hba : Below w.heap.size w wa := by rw [hwa]; exact (Below.refl _ w).alloc (Nat.le_refl _) _
 have hbb : Below wa.heap.size wa wb := by rw [hwb]; exact (Below.refl _ wa).alloc (Nat.le_refl _) _
 have hb3 : Below wb.heap.size wb w3 := by rw [hw3]; exact (Below.refl _ wb).alloc (Nat.le_refl _) _
 have hka : Kn.At wa w.heap.size 0 k := by rw [hwa]; exact Kn.At.new w k _
 have hkk : Kn.At w3 w.heap.size 0 k := (hka.later hbb).later hb3
 have hB3 : Below w.heap.size w w3 := (hba.trans (hbb.mono (by omega))).trans (hb3.mono (by omega))
 have hres : w3.heap[w.heap.size + 1]? = some (.cells Sk.nils 112 (0, 0)) := by
  refine (hb3.block _ (by omega)).trans ?_
  rw [hwb, ← hsa]
  exact heap_alloc_new wa _
 obtain ⟨Lt, hLt⟩ : ∃ Lt, Lt = N.take (Sk.at_ Sk.kn N k) := ⟨_, rfl⟩
 obtain ⟨Ge, hGe⟩ : ∃ Ge, Ge = N.drop (Sk.at_ Sk.kn N k) := ⟨_, rfl⟩
 have hN : N = Lt ++ Ge := by rw [hLt, hGe, List.take_append_drop]
 have hrow : w3.rowIs (w.heap.size + 2) 112 12 (Sk.pa p Lt 12) := by rw [hw3, ← hsb]; exact Sk.nils_row wb p Lt _
 have HLT : Hid (∀ y ∈ Lt, Kn.cmp (Sk.kn y) k < 0) := Lib.hid fun y hy => Sk.take_lt (N := N) (by rw [← hLt]; exact hy)
 have HGE : Hid (∀ y ∈ Ge, 0 ≤ Kn.cmp (Sk.kn y) k) := Lib.hid fun y hy => Int.not_lt.1 (Sk.drop_ge h.asc (by rw [← hGe]; exact hy))
 have HND : Hid (((Lt ++ Ge).map Sk.Nd.b).Nodup ∧ ∀ x ∈ Lt ++ Ge, x.b ≠ p) := Lib.hid (by rw [← hN]; exact ⟨h.nodup, h.ne⟩)
 have HW : Hid (∀ W, Below (w.heap.size + 2) w3 W → Sk.PL S W p (Lt ++ Ge) ∧ Kn.At W w.heap.size 0 k ∧ W.heap[w.heap.size + 1]? = some (.cells Sk.nils 112 (0, 0))) := Lib.hid fun W g =>
  ⟨by rw [← hN]; exact h.kept (hB3.trans (g.mono (by omega))), ⟨(g.cell (p := ⟨w.heap.size, 0, none⟩) (by show w.heap.size < _; omega)).trans hkk.c0, (g.cell (p := ⟨w.heap.size, 0 + 1, none⟩) (by show w.heap.size < _; omega)).trans hkk.c1, (g.cell (p := ⟨w.heap.size, 0 + 2, none⟩) (by show w.heap.size < _; omega)).trans hkk.c2⟩, (g.block _ (by omega)).trans hres⟩
 have HS : Hid (w3.heap.size = w.heap.size + 3 ∧ Below w.heap.size w w3) := Lib.hid ⟨hs3, hB3⟩
 have HROW := Lib.hid hrow
 rw [← hLt]
 obtain ⟨kn, ki, ks⟩ := k
 clear h hsa hsb hs3 hba hbb hb3 hka hkk hB3 hres hLt hGe hN hrow
 unfold Kn.V.val
 go_enter Tryz.func61, Tryz.ntmps61
 go_wp2_with fail
 change Code.wp _ _ _ _ (((w.alloc (.cells #[.bool kn, .int .i64 ki, .string ks] 43)).alloc (.cells Sk.nils 112)).alloc (.cells Sk.nils 112))
 rw [← hwa, ← hwb, ← hw3]
 clear hwa hwb hw3
 go_loopw [6, 7] (fun at_ i wr => ∃ (n : Nat) (j : Int) (q : Nat × Nat), n ≤ 12 ∧ i = .int .i64 j ∧ j = (n : Int) - 1 ∧ at_ = .pointer (some ⟨q.1, q.2, none⟩) ∧ (∀ m, n = m + 1 → ∃ A C, Lt = A ++ C ∧ q = Sk.lst m (p, 0) A) ∧
  wr.rowIs (w.heap.size + 2) 112 12 (Sk.pa p Lt n) ∧ Below (w.heap.size + 2) w3 wr) (fun _ i _ => (intOf i + 1).toNat)
 case atStart => exact ⟨12, 11, (p, 0), Nat.le_refl _, rfl, rfl, rfl, fun m hm => ⟨[], Lt, rfl, rfl⟩, HROW.out, Below.refl _ _⟩
 case round =>
  obtain ⟨n, j, q, hn, rfl, hj, rfl, hq, hR, hB⟩ := hrel
  have HR := Lib.hid hR
  have HB := Lib.hid hB
  have HQ := Lib.hid hq
  clear hR hB hq HROW
  rcases n with _ | m
  ·have hjn : ¬ (0 : Int) ≤ j := by omega
   clear hj
   obtain ⟨_, _, hr⟩ := HW.out wr HB.out
   have hz : wr.heap[w.heap.size + 2]? = some (.cells (Sk.paA p Lt) 112 (0, 0)) := Sk.row_all HR.out
   have HE : Hid (Below w.heap.size w (wr.setRow (w.heap.size + 1) (Sk.paA p Lt))) := Lib.hid (below_setRow (HS.out.2.trans (HB.out.mono (by omega))) (by omega) _)
   have HZ := Lib.hid hz
   have HRR := Lib.hid hr
   clear hr hz HW HLT HGE HND HR HB HQ HS
   go_wp2_with (first
    | refine wpList_load_row rfl 112 (.tmp 5) rfl (w.heap.size + 2) rfl 112 (Sk.paA p Lt) (0, 0) _ HZ.out Tryz.underlying112 rfl (by kernel_rfl) ?_
    | refine wpList_store_row rfl 112 (.tmp 4) (.tmp 42) rfl (w.heap.size + 1) (Sk.paA p Lt) rfl rfl 112 Sk.nils HRR.out (by kernel_rfl) rfl (Sk.paA_one _ _) ?_)
   refine bodyPost_ret (v := .agg (Sk.paA p Lt)) ?_ rfl ⟨rfl, HE.out⟩
   exact results_cell_row (P := Tryz.prog) rfl _ _ (w.heap.size + 1) 112 (Sk.paA p Lt) (0, 0) _ rfl (setRow_heap wr (w.heap.size + 1) Sk.nils (Sk.paA p Lt) 112 (0, 0) HRR.out) Tryz.underlying112 rfl (by kernel_rfl)
  ·obtain rfl : j = (m : Int) := by omega
   obtain ⟨A0, C0, hAC0, rfl⟩ := HQ.out m rfl
   have hm0 : (0 : Int) ≤ (m : Int) := by omega
   have hm12 : m < 12 := by omega
   have hmi : (m : Int) < 12 := by omega
   have hm1 : (m : Int) + 1 - 1 = (m : Int) := by omega
   clear hj
   obtain ⟨a0, ha0⟩ : ∃ q, q = Sk.lst m (p, 0) A0 := ⟨_, rfl⟩
   rw [← ha0]
   have HA0 := Lib.hid ha0
   have HAC := Lib.hid hAC0
   clear ha0 hAC0 HQ
   go_wp2_with fail
   go_loopw [6] (fun at_ wt => ∃ (A C : List Sk.Nd) (q : Nat × Nat), Lt = A ++ C ∧ at_ = .pointer (some ⟨q.1, q.2, none⟩) ∧ q = Sk.lst m (p, 0) A ∧
    wt.rowIs (w.heap.size + 2) 112 12 (Sk.pa p Lt (m + 1)) ∧ Below (w.heap.size + 2) w3 wt) (fun at_ _ => Sk.rest p (Lt ++ Ge) at_)
   case atStart => exact ⟨A0, C0, a0, HAC.out, rfl, HA0.out, HR.out, HB.out⟩
   case round =>
    obtain ⟨A, C, q, hAC, rfl, hq, hR2, hB2⟩ := hrel
    have HR2 := Lib.hid hR2
    have HB2 := Lib.hid hB2
    clear hR2 hB2 HR HB HA0 HAC
    obtain ⟨q1, q2⟩ := q
    have HQ := Lib.hid hq
    have HAC := Lib.hid hAC
    have hN2 : Lt ++ Ge = A ++ (C ++ Ge) := by rw [hAC, List.append_assoc]
    have HL : Hid (∀ W, Below wr.heap.size wr W → W.cell? ⟨q1, q2 + m, none⟩ = some (Sk.pt (Sk.lnk m (C ++ Ge))) ∧ Kn.At W w.heap.size 0 ⟨kn, ki, ks⟩) := Lib.hid fun W g => by
     obtain ⟨h1, h2, _⟩ := HW.out W (HB2.out.trans (g.mono (by have := HB2.out.size; have := HS.out.1; omega)))
     rw [hN2] at h1
     have := (h1.lnk hm12).1
     rw [← hq] at this
     exact ⟨this, h2⟩
    have HB3 : Hid (∀ W, Below wr.heap.size wr W → Below (w.heap.size + 2) w3 W ∧ W.rowIs (w.heap.size + 2) 112 12 (Sk.pa p Lt (m + 1))) := Lib.hid fun W g =>
     ⟨HB2.out.trans (g.mono (by have := HB2.out.size; have := HS.out.1; omega)), HR2.out.of_block (g.block _ HR2.out.lt)⟩
    obtain ⟨l0, k0, k1, k2⟩ := HL.out wr.drew (Below.refl _ wr).drew
    have HEND : Hid ((∀ c ∈ C, c.h ≤ m) → (q1, q2) = Sk.lst m (p, 0) Lt) := Lib.hid fun hlow => by rw [HAC.out, Sk.lst_append, ← HQ.out, Sk.lst_low _ hlow]
    have HC9 : Hid (∀ W, Below wr.heap.size wr W → W.cell? ⟨w.heap.size + 1 + 1, m, none⟩ = some (.pointer none) ∧ W.frozen? ⟨w.heap.size + 1 + 1, m, none⟩ = false) := Lib.hid fun W g => by
     have h9 := (HB3.out W g).2
     have c9 := h9.cell hm12
     unfold Sk.pa at c9
     rw [if_neg (by omega)] at c9
     exact ⟨c9, h9.frozen m⟩
    have HFIN : Hid (∀ W, Below wr.heap.size wr W → (q1, q2) = Sk.lst m (p, 0) Lt → (∀ m', m = m' + 1 → ∃ A C, Lt = A ++ C ∧ ((q1, q2) : Nat × Nat) = Sk.lst m' (p, 0) A) ∧
     (W.setCell ⟨w.heap.size + 1 + 1, m, none⟩ (.pointer (some ⟨q1, q2, none⟩))).rowIs (w.heap.size + 2) 112 12 (Sk.pa p Lt m) ∧ Below (w.heap.size + 2) w3 (W.setCell ⟨w.heap.size + 1 + 1, m, none⟩ (.pointer (some ⟨q1, q2, none⟩)))) := Lib.hid fun W g e => by
     obtain ⟨h1, h2⟩ := HB3.out W g
     refine ⟨fun m' hm' => ?_, ?_, h1.setCell (p := ⟨w.heap.size + 1 + 1, m, none⟩) (Nat.le_refl _) _⟩
     ·obtain ⟨A, C, e1, e2⟩ := Sk.lst_down m' (p, 0) Lt
      rw [← hm', ← e] at e2
      exact ⟨A, C, e1, e2⟩
     ·have := Sk.pa_next h2
      rw [← e] at this
      exact this
    have HKY : Hid (∀ y ∈ Lt ++ Ge, Sk.Ky wr.drew y.b (Sk.kn y)) := Lib.hid fun y hy => (HW.out wr.drew (HB3.out _ (Below.refl _ wr).drew).1).1.key hy
    have HCMP : Hid (∀ (y : Sk.Nd) W, Below wr.heap.size wr W → Calls Tryz.prog 91 #[(Sk.kn y).val, .agg #[.bool kn, .int .i64 ki, .string ks]] W fun e w' => e = .returned (.int .i64 (Kn.cmp (Sk.kn y) ⟨kn, ki, ks⟩)) ∧ Below wr.heap.size wr w') := Lib.hid fun y W g =>
     (Kn.compare_c (Sk.kn y) ⟨kn, ki, ks⟩ W).mono fun e w' hh => ⟨hh.1, g.trans (hh.2.mono g.size)⟩
    clear hq hAC hN2
    rcases Sk.next_of (m := m) C Ge with ⟨hlow, hl⟩ | ⟨hlow, y, hy, hl⟩ | ⟨C1, y, C2, hC, hym, hl⟩
    ·rw [hl] at l0
     replace l0 : wr.cell? ⟨q1, q2 + m, none⟩ = some (.pointer none) := l0
     have HQE := Lib.hid (HEND.out hlow)
     obtain ⟨c9, f9⟩ := HC9.out wr (Below.refl _ wr)
     clear hl hlow HL HB3 HEND HKY HCMP HC9 HND HS HLT HGE HW HQ HAC HR2 HB2
     go_wp2_with fail
     go_quiet (fail)
     go_wp2
     go_roundw
     case rel => exact ⟨m, (m : Int) - 1, (q1, q2), by omega, rfl, rfl, rfl, HFIN.out _ (Kn.below_drewN (Below.refl _ wr) _) HQE.out⟩
     case measure => simp [intOf]
    ·rw [hl] at l0
     replace l0 : wr.drew.cell? ⟨q1, q2 + m, none⟩ = some (.pointer (some ⟨y.b, 0, none⟩)) := l0
     have HQE := Lib.hid (HEND.out hlow)
     have hge := HGE.out y hy
     have CK := Lib.hid (Sk.key_c (HKY.out y (List.mem_append_right _ hy)))
     have CC : Hid (∀ W, _) := Lib.hid (HCMP.out y)
     have hge2 : decide (Kn.cmp (Sk.kn y) ⟨kn, ki, ks⟩ < 0) = false := decide_eq_false (by omega)
     generalize Kn.cmp (Sk.kn y) ⟨kn, ki, ks⟩ = cm at CC hge hge2
     generalize (Sk.kn y).val = kv at CC CK
     clear hl hlow HB3 HEND HKY HCMP HND HS HLT HGE HW HQ HAC HR2 HB2 hy
     generalize y.b = yb at l0 CK
     go_wp2_with fail
     go_region_law (first
      | (go_simp; go_at_call 92; (with_reducible refine CK.out.mono ?_); rintro e w4 ⟨rfl, g4⟩
         have G4 : Hid (Below wr.heap.size wr w4) := Lib.hid ((Below.refl _ wr).drew.trans g4)
         obtain ⟨-, k0, k1, k2⟩ := HL.out w4 G4.out
         clear g4)
      | (go_simp; go_at_call 91; (with_reducible refine (CC.out _ G4.out).mono ?_); rintro e w5 ⟨rfl, g5⟩
         have G5 := Lib.hid g5
         clear g5))
     all_goals
      obtain ⟨c9, f9⟩ := HC9.out w5 G5.out
      clear CK CC HL HC9 G4
      go_wp2
      have HF := Lib.hid (HFIN.out _ G5.out HQE.out)
      go_roundw
      case rel => exact ⟨m, (m : Int) - 1, (q1, q2), by omega, rfl, rfl, rfl, HF.out⟩
      case measure => simp [intOf]
    ·rw [hl] at l0
     replace l0 : wr.drew.cell? ⟨q1, q2 + m, none⟩ = some (.pointer (some ⟨y.b, 0, none⟩)) := l0
     have hyL : y ∈ Lt := by rw [HAC.out, hC]; simp
     have hlt := HLT.out y hyL
     have CK := Lib.hid (Sk.key_c (HKY.out y (List.mem_append_left _ hyL)))
     have CC : Hid (∀ W, _) := Lib.hid (HCMP.out y)
     have hlt2 : decide (Kn.cmp (Sk.kn y) ⟨kn, ki, ks⟩ < 0) = true := decide_eq_true hlt
     have HREL : Hid (Lt = (A ++ C1 ++ [y]) ++ C2 ∧ ((y.b, 3) : Nat × Nat) = Sk.lst m (p, 0) (A ++ C1 ++ [y])) := Lib.hid ⟨by rw [HAC.out, hC]; simp, (Sk.lst_high _ _ hym).symm⟩
     have HMS : Hid (Sk.rest p (Lt ++ Ge) (.pointer (some ⟨y.b, 3, none⟩)) < Sk.rest p (Lt ++ Ge) (.pointer (some ⟨q1, q2, none⟩))) := Lib.hid (by
      have e1 : Lt ++ Ge = (A ++ C1) ++ y :: (C2 ++ Ge) := by rw [HAC.out, hC]; simp
      have e2 : Lt ++ Ge = A ++ (C1 ++ y :: (C2 ++ Ge)) := by rw [HAC.out, hC]; simp
      obtain ⟨hd, hp⟩ := HND.out
      have m1 : Sk.rest p (Lt ++ Ge) (.pointer (some ⟨y.b, 3, none⟩)) = (C2 ++ Ge).length := by rw [e1]; exact Sk.rest_node 3 (by rw [← e1]; exact hd) (hp y (List.mem_append_left _ hyL))
      have m2 := Sk.rest_lst (p := p) (i := m) (o := 0) (A := A) (B := C1 ++ y :: (C2 ++ Ge)) (by rw [← e2]; exact hd) (fun x hx => hp x (by rw [e2]; exact List.mem_append_left _ hx))
      rw [← e2, ← HQ.out] at m2
      rw [m1]
      simp only [List.length_append, List.length_cons] at m2 ⊢
      omega)
     have HL2 : Hid (∀ W, Below wr.heap.size wr W → W.cell? ⟨q1, q2 + m, none⟩ = some (.pointer (some ⟨y.b, 0, none⟩))) := Lib.hid fun W g => by
      have := (HL.out W g).1
      rw [hl] at this
      exact this
     generalize Kn.cmp (Sk.kn y) ⟨kn, ki, ks⟩ = cm at CC hlt hlt2
     generalize (Sk.kn y).val = kv at CC CK
     clear hl HEND HKY HCMP HND HS HLT HGE HW HQ HAC HR2 HB2 hyL hC hym HFIN HC9
     go_wp2_with fail
     go_region_law (first
      | (go_simp; go_at_call 92; (with_reducible refine CK.out.mono ?_); rintro e w4 ⟨rfl, g4⟩
         have G4 : Hid (Below wr.heap.size wr w4) := Lib.hid ((Below.refl _ wr).drew.trans g4)
         obtain ⟨-, k0, k1, k2⟩ := HL.out w4 G4.out
         clear g4)
      | (go_simp; go_at_call 91; (with_reducible refine (CC.out _ G4.out).mono ?_); rintro e w5 ⟨rfl, g5⟩
         have G5 := Lib.hid g5
         clear g5))
     all_goals
      have l5 := HL2.out w5 G5.out
      have HF := Lib.hid (HB3.out w5 G5.out)
      clear CK CC HL HL2 G4 HB3
      go_wp2
      go_roundw
      case rel => exact ⟨A ++ C1 ++ [y], C2, (y.b, 3), HREL.out.1, rfl, HREL.out.2, HF.out.2, HF.out.1⟩
      case measure => exact HMS.out
end
section
open Go Go.RowKit
def Sk.fst (N : List Sk.Nd) (k : Kn.V) : Option Nat := Sk.lnk 0 (N.drop (Sk.at_ Sk.kn N k))
theorem Sk.lnk_zero {L : List Sk.Nd} (h : ∀ x ∈ L, 1 ≤ x.h) : Sk.lnk 0 L = L.head?.map Sk.Nd.b := by
 cases L with
 | nil => rfl
 | cons x L => rw [Sk.lnk, if_pos (show 0 < x.h from h x List.mem_cons_self)]; rfl
theorem Sk.PL.fst {S : Nat → Prop} {w : World} {p : Nat} {N : List Sk.Nd} (h : Sk.PL S w p N) (k : Kn.V) : Sk.fst N k = (N[Sk.at_ Sk.kn N k]?).map Sk.Nd.b := by
 unfold Sk.fst
 rw [Sk.lnk_zero fun x hx => h.hgt x (List.mem_of_mem_drop hx), List.head?_drop]
theorem Sk.PL.split {S : Nat → Prop} {w : World} {p : Nat} {N : List Sk.Nd} (h : Sk.PL S w p N) (n : Nat) : Sk.PL S w p (N.take n ++ N.drop n) := by rw [List.take_append_drop]; exact h
end
section
open Go Go.RowKit
def Sk.GetP (o : Option Dd.D) (w : World) (e : Ending) (w' : World) : Prop := match o with
 | none => e = .returned (.tuple #[.agg #[.bool false, .slice none 0 0], .bool false]) ∧ Below w.heap.size w w'
 | some d => ∃ u, e = .returned (.tuple #[.agg #[.bool d.gone, u], .bool true]) ∧ Sk.Rw w.heap.size w' u d.row ∧ Below w.heap.size w w'
theorem Sk.get_cases (N : List Sk.Nd) (k : Kn.V) : (N[Sk.at_ Sk.kn N k]? = none ∧ Sk.get Sk.kn N k = none) ∨
 (∃ x, N[Sk.at_ Sk.kn N k]? = some x ∧ (Kn.cmp (Sk.kn x) k == 0) = false ∧ Sk.get Sk.kn N k = none) ∨ ∃ x, N[Sk.at_ Sk.kn N k]? = some x ∧ (Kn.cmp (Sk.kn x) k == 0) = true ∧ Sk.get Sk.kn N k = some x := by
 cases hx : N[Sk.at_ Sk.kn N k]? with
 | none =>
   refine .inl ⟨rfl, ?_⟩
   unfold Sk.get
   split
   ·exact hx
   ·rfl
 | some x =>
   have h1 := Sk.at_ge hx
   have h2 := Sk.cmp_anti k (Sk.kn x)
   by_cases h0 : Kn.cmp (Sk.kn x) k = 0
   ·refine .inr (.inr ⟨x, rfl, by rw [h0]; rfl, ?_⟩)
    unfold Sk.get Sk.there
    rw [hx]
    simp only [Bool.not_eq_true', decide_eq_false_iff_not]
    rw [if_pos (by omega)]
   ·refine .inr (.inl ⟨x, rfl, by rw [beq_eq_false_iff_ne]; exact h0, ?_⟩)
    unfold Sk.get Sk.there
    rw [hx]
    simp only [Bool.not_eq_true', decide_eq_false_iff_not]
    rw [if_neg (by omega)]
end
section
open Go Go.RowKit
theorem Sk.Off.set {S : Nat → Prop} {w w' : World} (h : Sk.Off S w w') {a : Addr} (ha : S a.block ∨ w.heap.size ≤ a.block) (v : Value) : Sk.Off S w (w'.setCell a v) :=
 ⟨h.os, h.tape, h.output, by have := h.size; simpa [World.setCell] using this, fun k hk hs => by
  rw [Below.heap_setCell _ _ _ _ (fun e => by rcases ha with ha | ha; exact hs (e ▸ ha); omega)]
  exact h.block k hk hs⟩
theorem Sk.Off.alloc {S : Nat → Prop} {w w' : World} (h : Sk.Off S w w') (o : Obj) : Sk.Off S w (w'.alloc o) :=
 h.same (Sk.Off.of_below ((Below.refl _ w').alloc (Nat.le_refl _) o) |> fun x => ⟨x.os, x.tape, x.output, x.size, x.block⟩)
theorem Sk.Off.drew {S : Nat → Prop} {w w' : World} (h : Sk.Off S w w') : Sk.Off S w w'.drew := ⟨h.os, h.tape, h.output, h.size, h.block⟩
theorem Sk.Off.then {S : Nat → Prop} {w w1 w2 : World} (h : Sk.Off S w w1) (g : Below w1.heap.size w1 w2) : Sk.Off S w w2 := h.same (Sk.Off.of_below g)
structure Sk.MS (w0 : World) (p : Nat) (A B : List Sk.Nd) (n : Sk.Nd) (st : Int) (c bt : Value) (w : World) : Prop where
 hdr : w.rowIs p 109 15 (Sk.hf (.int .u64 st) c bt (A ++ n :: B))
 seg : Sk.Seg w (A ++ n :: B) []
 off : Sk.Off (fun b => b = p ∨ ∃ x ∈ A ++ B, x.b = b) w0 w
theorem Sk.MS.kept {w0 : World} {p : Nat} {A B : List Sk.Nd} {n : Sk.Nd} {st : Int} {c bt : Value} {w w' : World} (h : Sk.MS w0 p A B n st c bt w) (g : Below w.heap.size w w') : Sk.MS w0 p A B n st c bt w' :=
 ⟨h.hdr.of_block (g.block _ h.hdr.lt), h.seg.same fun x hx => g.block _ (h.seg.alive x hx), h.off.then g⟩
theorem Sk.MS.raise {w0 : World} {p : Nat} {A B : List Sk.Nd} {n : Sk.Nd} {st : Int} {c bt : Value} {w : World} {i : Nat} (hi : i < 12) (h : Sk.MS w0 p A B (n.up i) st c bt w)
 (hd : ((A ++ B).map Sk.Nd.b).Nodup) (hp : ∀ x ∈ A ++ B, x.b ≠ p) (hn : ∀ x ∈ A ++ B, x.b ≠ n.b) (hnp : n.b ≠ p) (hw : w0.heap.size ≤ n.b) :
 Sk.MS w0 p A B (n.up (i + 1)) st c bt ((w.setCell ⟨n.b, 3 + i, none⟩ (Sk.pt (Sk.lnk i B))).setCell ⟨(Sk.lst i (p, 0) A).1, (Sk.lst i (p, 0) A).2 + i, none⟩ (Sk.pt (some n.b))) := by
 have hup : (n.up i).up (i + 1) = n.up (i + 1) := rfl
 obtain ⟨hsA, hsB⟩ := (Sk.seg_append A (n.up i :: B) []).1 h.seg
 rw [List.append_nil] at hsA
 have hq : (Sk.lst i (p, 0) A).1 = p ∨ ∃ y ∈ A, (Sk.lst i (p, 0) A).1 = y.b := by
  rcases Sk.lst_or i A with hl | ⟨y, hy, _, h2, _⟩
  ·exact .inl (by rw [Sk.lst_low _ hl])
  ·exact .inr ⟨y, hy, by rw [h2]⟩
 have hqn : n.b ≠ (Sk.lst i (p, 0) A).1 := by
  rcases hq with e | ⟨y, hy, e⟩
  ·rw [e]; exact hnp
  ·rw [e]; exact (hn y (List.mem_append_left _ hy)).symm
 have hqB : ∀ x ∈ B, x.b ≠ (Sk.lst i (p, 0) A).1 := by
  rintro x hx e
  rcases hq with e2 | ⟨y, hy, e2⟩
  ·exact hp x (List.mem_append_right _ hx) (e.trans e2)
  ·rw [List.map_append, List.nodup_append] at hd
   exact hd.2.2 _ (List.mem_map_of_mem hy) _ (List.mem_map_of_mem hx) (e2.symm.trans e.symm)
 have hdA : (A.map Sk.Nd.b).Nodup := by rw [List.map_append, List.nodup_append] at hd; exact hd.1
 refine ⟨?_, ?_, ?_⟩
 ·have h1 := h.hdr.setOther (a := ⟨n.b, 3 + i, none⟩) (fun e => hnp e.symm) (Sk.pt (Sk.lnk i B))
  have := Sk.raise_head hi (show (n.up i).h = i from rfl) h1 fun x hx => hp x (List.mem_append_left _ hx)
  rw [hup] at this
  exact this
 ·refine (Sk.seg_append A _ []).2 ⟨?_, ?_, ?_⟩
  ·rw [List.append_nil]
   have h1 := hsA.other (a := ⟨n.b, 3 + i, none⟩) (fun x hx => hn x (List.mem_append_left _ hx)) (Sk.pt (Sk.lnk i B))
   have := Sk.Seg.raise hi (show (n.up i).h = i from rfl) (p, 0) h1 hdA fun x hx => hp x (List.mem_append_left _ hx)
   rw [hup] at this
   exact this
  ·rw [List.append_nil]
   have h1 := hsB.1
   rw [List.append_nil] at h1
   have := Sk.raise_self (show (n.up i).h = i from rfl) h1
   rw [hup] at this
   exact this.setOther (a := ⟨(Sk.lst i (p, 0) A).1, (Sk.lst i (p, 0) A).2 + i, none⟩) hqn _
  ·exact (hsB.2.other (a := ⟨n.b, 3 + i, none⟩) (fun x hx => hn x (List.mem_append_right _ hx)) _).other (a := ⟨(Sk.lst i (p, 0) A).1, (Sk.lst i (p, 0) A).2 + i, none⟩) hqB _
 ·refine (h.off.set (a := ⟨n.b, 3 + i, none⟩) (.inr hw) _).set (a := ⟨(Sk.lst i (p, 0) A).1, (Sk.lst i (p, 0) A).2 + i, none⟩) (.inl ?_) _
  rcases hq with e | ⟨y, hy, e⟩
  ·exact .inl e
  ·exact .inr ⟨y, List.mem_append_left _ hy, e.symm⟩
end
section
open Go Go.RowKit
theorem Sk.lnk_mid {n : Sk.Nd} (hn : n.h = 0) (j : Nat) (A B : List Sk.Nd) : Sk.lnk j (A ++ n :: B) = Sk.lnk j (A ++ B) := by
 induction A with
 | nil => rw [List.nil_append, List.nil_append, Sk.lnk, if_neg (by omega)]
 | cons x A ih => rw [List.cons_append, List.cons_append, Sk.lnk, Sk.lnk, ih]
theorem Sk.MS.start {w0 w : World} {p : Nat} {A B : List Sk.Nd} {n : Sk.Nd} {st : Int} {c bt : Value} (hn : n.h = 0) (h1 : w.rowIs p 109 15 (Sk.hf (.int .u64 st) c bt (A ++ B))) (h2 : Sk.Seg w (A ++ B) [])
 (hr : w.rowIs n.b 117 15 (n.f B)) (ho : Sk.Off (fun b => b = p ∨ ∃ x ∈ A ++ B, x.b = b) w0 w) : Sk.MS w0 p A B n st c bt w := by
 refine ⟨h1.congr fun j _ => ?_, ?_, ho⟩
 ·unfold Sk.hf
  rw [Sk.lnk_mid hn]
 ·obtain ⟨a1, a2⟩ := (Sk.seg_append A B []).1 h2
  rw [List.append_nil] at a1
  refine (Sk.seg_append A _ []).2 ⟨?_, ?_, a2⟩
  ·rw [List.append_nil]
   exact a1.tail fun i R => Sk.lnk_mid hn i R B
  ·rw [List.append_nil]
   exact hr
theorem Sk.MS.at {w0 w : World} {p : Nat} {A B : List Sk.Nd} {n : Sk.Nd} {st : Int} {c bt : Value} {k : Nat} (hk : k < 12) (h : Sk.MS w0 p A B (n.up k) st c bt w) :
 (w.cell? ⟨(Sk.lst k (p, 0) A).1, (Sk.lst k (p, 0) A).2 + k, none⟩ = some (.pointer ((Sk.lnk k B).map fun b => ⟨b, 0, none⟩)) ∧ w.frozen? ⟨(Sk.lst k (p, 0) A).1, (Sk.lst k (p, 0) A).2 + k, none⟩ = false) ∧
 w.cell? ⟨n.b, 3 + k, none⟩ = some (.pointer none) ∧ w.frozen? ⟨n.b, 3 + k, none⟩ = false := by
 obtain ⟨a1, a2, _⟩ := (Sk.seg_append A (n.up k :: B) []).1 h.seg
 rw [List.append_nil] at a1 a2
 have hl : Sk.lnk k (n.up k :: B) = Sk.lnk k B := by rw [Sk.lnk, if_neg (by show ¬ k < k; omega)]
 refine ⟨⟨?_, a1.lst_frozen (p, 0) (h.hdr.frozen _)⟩, ?_, a2.frozen (3 + k)⟩
 ·have := a1.lst hk (p, 0) (by
   rw [show (0 : Nat) + k = k by omega]
   have := h.hdr.cell (i := k) (by omega)
   unfold Sk.hf at this
   rw [if_pos hk] at this
   exact this)
  rw [hl] at this
  exact this
 ·have := a2.cell (i := 3 + k) (by omega)
  unfold Sk.Nd.f at this
  rw [if_neg (by omega), if_neg (by omega), if_neg (by omega), if_neg (by show ¬ 3 + k - 3 < k; omega)] at this
  exact this
theorem Sk.MS.drew {w0 w : World} {p : Nat} {A B : List Sk.Nd} {n : Sk.Nd} {st : Int} {c bt : Value} (h : Sk.MS w0 p A B n st c bt w) : Sk.MS w0 p A B n st c bt w.drew := h.kept (Below.refl _ w).drew
theorem Sk.lst_lt {w0 : World} {p : Nat} {A B : List Sk.Nd} (k : Nat) (h : ∀ x ∈ A ++ B, x.b < w0.heap.size) (hp : p < w0.heap.size) : (Sk.lst k (p, 0) A).1 < w0.heap.size := by
 rcases Sk.lst_or k A with hl | ⟨y, hy, _, h2, _⟩
 ·rw [Sk.lst_low _ hl]; exact hp
 ·rw [h2]; exact h y (List.mem_append_left _ hy)
theorem Sk.node_new (w : World) (gn : Bool) (rv : Value) (row : List Kn.V) (c : Nat) (B : List Sk.Nd) (b : Nat) (hb : b = w.heap.size) :
 (w.alloc (.cells #[.bool gn, rv, .int .i64 (c : Int), .pointer none, .pointer none, .pointer none, .pointer none, .pointer none, .pointer none, .pointer none, .pointer none, .pointer none, .pointer none, .pointer none, .pointer none] 117)).rowIs b 117 15 ((⟨b, gn, rv, row, c, 0⟩ : Sk.Nd).f B) := by
 subst hb
 exact World.rowIs_alloc w _ _ _ (fun i hi => by
  have hi : i < 15 := hi
  rcases (by omega : i = 0 ∨ i = 1 ∨ i = 2 ∨ i = 3 ∨ i = 4 ∨ i = 5 ∨ i = 6 ∨ i = 7 ∨ i = 8 ∨ i = 9 ∨ i = 10 ∨ i = 11 ∨ i = 12 ∨ i = 13 ∨ i = 14) with rfl | rfl | rfl | rfl | rfl | rfl | rfl | rfl | rfl | rfl | rfl | rfl | rfl | rfl | rfl <;> rfl)
set_option maxHeartbeats 8000000 in
set_option maxRecDepth 100000 in
theorem Sk.insert_c {w : World} {p : Nat} {A B : List Sk.Nd} {st : Int} {c : Nat} {bt : Value} (h1 : w.rowIs p 109 15 (Sk.hf (.int .u64 st) (.int .i64 (c : Int)) bt (A ++ B))) (h2 : Sk.Seg w (A ++ B) [])
 (hd : ((A ++ B).map Sk.Nd.b).Nodup) (hp : ∀ x ∈ A ++ B, x.b ≠ p) (hT : Sk.Tab w) (hg : 3 < p) (hc : c ≤ 1000000) (gn : Bool) (a : Option Addr) (m q : Nat) (row : List Kn.V) :
 Calls Tryz.prog 64 #[.pointer (some ⟨p, 0, none⟩), .agg (Sk.paA p A), .agg #[.bool gn, .slice a m q]] w fun e w' => e = .returned (.tuple #[]) ∧
  ∃ (b h : Nat) (st' : Int), w.heap.size ≤ b ∧ b < w'.heap.size ∧ 1 ≤ h ∧ Sk.MS w p A B ⟨b, gn, .slice a m q, row, c, h⟩ st' (.int .i64 ((c + 1 : Nat) : Int)) bt w' := by
 obtain ⟨wa, hwa⟩ : ∃ wa, wa = w.alloc (.cells (Sk.paA p A) 112) := ⟨_, rfl⟩
 obtain ⟨wb, hwb⟩ : ∃ wb, wb = wa.alloc (.cells #[.bool gn, .slice a m q] 26) := ⟨_, rfl⟩
 have hsa : wa.heap.size = w.heap.size + 1 := by rw [hwa]; exact World.size_alloc ..
 have hba : Below w.heap.size w wa := by rw [hwa]; exact (Below.refl _ w).alloc (Nat.le_refl _) _
 have hbb : Below wa.heap.size wa wb := by rw [hwb]; exact (Below.refl _ wa).alloc (Nat.le_refl _) _
 have hsb : wb.heap.size = w.heap.size + 2 := by rw [hwb, World.size_alloc]; omega
 have hb0 : Below w.heap.size w wb := hba.trans (hbb.mono (by omega))
 have hpw : p < w.heap.size := h1.lt
 have r1 := h1.of_block (hb0.block p hpw)
 have c13 : wb.drew.cell? ⟨p, 13, none⟩ = some (.int .i64 (c : Int)) := r1.drew.cell (i := 13) (by decide)
 have td : wb.heap[w.heap.size + 1]? = some (.cells #[.bool gn, .slice a m q] 26 (0, 0)) := by rw [hwb, ← hsa]; exact heap_alloc_new wa _
 have d0 : wb.drew.cell? ⟨w.heap.size + 1, 0, none⟩ = some (.bool gn) := by show wb.cell? _ = _; rw [cell_of_row _ _ _ _ _ _ td]; rfl
 have d1 : wb.drew.cell? ⟨w.heap.size + 1, 1, none⟩ = some (.slice a m q) := by show wb.cell? _ = _; rw [cell_of_row _ _ _ _ _ _ td]; rfl
 have HN1 : Hid (∀ cs : Array Value, cs = #[.bool gn, .slice a m q, .int .i64 (c : Int), .pointer none, .pointer none, .pointer none, .pointer none, .pointer none, .pointer none, .pointer none, .pointer none, .pointer none, .pointer none, .pointer none, .pointer none] → ∀ st',
  Sk.MS w p A B ⟨wb.heap.size, gn, .slice a m q, row, c, 0⟩ st' (.int .i64 (c : Int)) bt (((wb.alloc (.cells cs 117)).drew).setCell ⟨p, 12, none⟩ (.int .u64 st')) ∧
  (((wb.alloc (.cells cs 117)).drew).setCell ⟨p, 12, none⟩ (.int .u64 st')).rowIs w.heap.size 112 12 (Sk.pa p A 0) ∧
  ((wb.alloc (.cells cs 117)).drew).rowIs p 109 15 (Sk.hf (.int .u64 st) (.int .i64 (c : Int)) bt (A ++ B)) ∧ Sk.Tab ((wb.alloc (.cells cs 117)).drew)) := Lib.hid fun cs hcs st' => by
  have hb4 : Below w.heap.size w ((wb.alloc (.cells cs 117)).drew) := (hb0.alloc hb0.size _).drew
  have r4 := h1.of_block (hb4.block p hpw)
  have hnew := (Sk.node_new wb gn (.slice a m q) row c B wb.heap.size rfl).drew
  rw [← hcs] at hnew
  have hset := fun (b : Nat) (hb : b ≠ p) => Below.heap_setCell ((wb.alloc (.cells cs 117)).drew) ⟨p, 12, none⟩ (.int .u64 st') b hb
  refine ⟨Sk.MS.start rfl ?_ ?_ ?_ ?_, ?_, r4, hT.later hb4 (by omega)⟩
  ·refine (r4.set 12 (.int .u64 st')).congr fun j hj => ?_
   by_cases e : j = 12
   ·subst e; rfl
   ·rw [if_neg e]
    unfold Sk.hf
    rw [if_neg e, if_neg e]
  ·exact h2.same fun x hx => (hset x.b (hp x hx)).trans (hb4.block _ (h2.alive x hx))
  ·exact hnew.of_block (hset _ (by show wb.heap.size ≠ p; omega))
  ·exact (Sk.Off.of_below hb4).set (.inl (.inl rfl)) _
  ·refine World.rowIs.of_block (w := wa) ?_ ?_
   ·rw [hwa]
    exact World.rowIs_alloc w _ _ _ (fun i hi => by
     rw [Sk.paA_size] at hi
     unfold Sk.paA
     rw [List.getElem?_toArray, List.getElem?_map, List.getElem?_range hi]
     rfl)
   ·refine (hset _ (by omega)).trans ?_
    exact ((hbb.alloc hbb.size _).drew.block w.heap.size (by omega))
 have HNB : Hid (w.heap.size + 2 = wb.heap.size) := Lib.hid hsb.symm
 have HOFF : Hid (∀ x ∈ A ++ B, x.b < w.heap.size) := Lib.hid fun x hx => h2.alive x hx
 have HD := Lib.hid hd
 have HP := Lib.hid hp
 have HPW := Lib.hid hpw
 clear h1 h2 hd hp hT hsa hba hbb hsb hb0 hpw r1 td
 go_enter Tryz.func64, Tryz.ntmps64
 go_wp2_with fail
 rw [← hwa, ← hwb]
 clear hwa hwb
 go_region
 have HN2 := Lib.hid (HN1.out _ rfl)
 clear HN1
 generalize hw4 : (wb.alloc _).drew = w4 at HN2 ⊢
 generalize wb.heap.size = nb at HN2 HNB ⊢
 clear hw4 c13 d0 d1
 go_wp2_with fail
 with_reducible refine (Sk.draw_c (HN2.out 0).2.2.1 (HN2.out 0).2.2.2 hg).mono ?_
 rintro e w5 ⟨h, st', hh1, hh2, rfl, rfl⟩
 obtain ⟨hms, hpb, _, _⟩ := HN2.out st'
 have HMS := Lib.hid hms
 have HPB := Lib.hid hpb
 clear hms hpb HN2
 generalize w4.setCell ⟨p, 12, none⟩ (.int .u64 st') = w5 at HMS HPB ⊢
 have hh0 : (0 : Int) ≤ (h : Int) := by omega
 go_wp2_with fail
 go_loopw [17] (fun i wr => ∃ k : Nat, k ≤ h ∧ i = .int .i64 k ∧ Sk.MS w p A B ⟨nb, gn, .slice a m q, row, c, k⟩ st' (.int .i64 (c : Int)) bt wr ∧ wr.rowIs w.heap.size 112 12 (Sk.pa p A 0)) (fun i _ => h - (intOf i).toNat)
 case atStart => exact ⟨0, Nat.zero_le _, rfl, HMS.out, HPB.out⟩
 case round =>
  obtain ⟨k, hk, rfl, hm2, hp2⟩ := hrel
  have HM2 := Lib.hid hm2
  have HP2 := Lib.hid hp2
  clear hm2 hp2 HMS HPB
  have hk0 : (0 : Int) ≤ (k : Int) := by omega
  by_cases hkh : k < h
  ·have hki : (k : Int) < (h : Int) := by omega
   have hk12 : k < 12 := by omega
   have hk12i : (k : Int) < 12 := by omega
   obtain ⟨⟨hc1, hf1⟩, hc2, hf2⟩ := Sk.MS.at (n := ⟨nb, gn, .slice a m q, row, c, 0⟩) hk12 HM2.out
   have hlt := Sk.lst_lt (B := B) k HOFF.out HPW.out
   have hpc := HP2.out.cell hk12
   have hpa : Sk.pa p A 0 k = .pointer (some ⟨(Sk.lst k (p, 0) A).1, (Sk.lst k (p, 0) A).2, none⟩) := by unfold Sk.pa; rw [if_pos (Nat.zero_le _)]; rfl
   rw [hpa] at hpc
   have HNX : Hid (∀ W, W = (wr.setCell ⟨nb, 3 + k, none⟩ (.pointer ((Sk.lnk k B).map fun b => ⟨b, 0, none⟩))).setCell ⟨(Sk.lst k (p, 0) A).1, (Sk.lst k (p, 0) A).2 + k, none⟩ (.pointer (some ⟨nb, 0, none⟩)) →
    Sk.MS w p A B ⟨nb, gn, .slice a m q, row, c, k + 1⟩ st' (.int .i64 (c : Int)) bt W ∧ W.rowIs w.heap.size 112 12 (Sk.pa p A 0)) := Lib.hid fun W hW => by
    have hnb := HNB.out
    rw [hW]
    refine ⟨Sk.MS.raise (n := ⟨nb, gn, .slice a m q, row, c, 0⟩) hk12 HM2.out HD.out HP.out (fun x hx => by have := HOFF.out x hx; show x.b ≠ nb; omega) (by have := HPW.out; show nb ≠ p; omega) (by show w.heap.size ≤ nb; omega), ?_⟩
    exact (HP2.out.setOther (a := ⟨nb, 3 + k, none⟩) (by show w.heap.size ≠ nb; omega) _).setOther (a := ⟨(Sk.lst k (p, 0) A).1, (Sk.lst k (p, 0) A).2 + k, none⟩) (by show w.heap.size ≠ (Sk.lst k (p, 0) A).1; omega) _
   have hnq : ¬ nb = (Sk.lst k (p, 0) A).1 := by have := HNB.out; omega
   have hqn : ¬ (Sk.lst k (p, 0) A).1 = nb := by have := HNB.out; omega
   replace hc1 : wr.drew.cell? _ = _ := hc1
   replace hf1 : wr.drew.frozen? _ = _ := hf1
   replace hc2 : wr.drew.cell? _ = _ := hc2
   replace hf2 : wr.drew.frozen? _ = _ := hf2
   replace hpc : wr.drew.cell? _ = _ := hpc
   generalize (Sk.lnk k B).map (fun b => (⟨b, 0, none⟩ : Addr)) = o9 at hc1 HNX
   generalize Sk.lst k (p, 0) A = qq at hc1 hf1 hpc HNX hnq hqn hlt
   obtain ⟨q1, q2⟩ := qq
   have hwq : ¬ w.heap.size = nb := by have := HNB.out; omega
   have hwl : ¬ w.heap.size = q1 := by show ¬ w.heap.size = q1; have h9 : q1 < w.heap.size := hlt; omega
   have x1 : ((wr.setCell ⟨nb, 3 + k, none⟩ (.pointer o9)).drew).cell? ⟨w.heap.size, k, none⟩ = some (.pointer (some ⟨q1, q2, none⟩)) := (World.cell?_of_block (Below.heap_setCell _ _ _ _ hwq)).trans hpc
   have x2 : ((wr.setCell ⟨nb, 3 + k, none⟩ (.pointer o9)).drew).cell? ⟨q1, q2 + k, none⟩ = some (.pointer o9) := (World.cell?_of_block (Below.heap_setCell _ _ _ _ hqn)).trans hc1
   have x3 : ((wr.setCell ⟨nb, 3 + k, none⟩ (.pointer o9)).drew).frozen? ⟨q1, q2 + k, none⟩ = false := (World.frozen?_of_block (Below.heap_setCell _ _ _ _ hqn)).trans hf1
   have x4 : ((wr.setCell ⟨q1, q2 + k, none⟩ (.pointer (some ⟨nb, 0, none⟩))).drew).cell? ⟨w.heap.size, k, none⟩ = some (.pointer (some ⟨q1, q2, none⟩)) := (World.cell?_of_block (Below.heap_setCell _ _ _ _ hwl)).trans hpc
   have x5 : ((wr.setCell ⟨q1, q2 + k, none⟩ (.pointer (some ⟨nb, 0, none⟩))).drew).cell? ⟨nb, 3 + k, none⟩ = some (.pointer none) := (World.cell?_of_block (Below.heap_setCell _ _ _ _ hnq)).trans hc2
   have x6 : ((wr.setCell ⟨q1, q2 + k, none⟩ (.pointer (some ⟨nb, 0, none⟩))).drew).frozen? ⟨nb, 3 + k, none⟩ = false := (World.frozen?_of_block (Below.heap_setCell _ _ _ _ hnq)).trans hf2
   clear hpa hlt HM2 HP2 HOFF HD HP
   go_wp2_with fail
   go_region
   clear x1 x2 x3 x4 x5 x6 hc1 hf1 hc2 hf2 hpc
   go_wp2
   go_roundw
   case rel => exact ⟨k + 1, by omega, by simp, (HNX.out _ rfl).1.drew, (HNX.out _ rfl).2.drew⟩
   case measure => simp [intOf]; omega
  ·obtain rfl : k = h := by omega
   have hki : ¬ (k : Int) < (k : Int) := by omega
   have c13 : wr.cell? ⟨p, 13, none⟩ = some (.int .i64 (c : Int)) := HM2.out.hdr.cell (i := 13) (by decide)
   have f13 := HM2.out.hdr.frozen 13
   have HF : Hid (Sk.MS w p A B ⟨nb, gn, .slice a m q, row, c, k⟩ st' (.int .i64 ((c + 1 : Nat) : Int)) bt (wr.setCell ⟨p, 13, none⟩ (.int .i64 ((c + 1 : Nat) : Int))) ∧ nb < (wr.setCell ⟨p, 13, none⟩ (.int .i64 ((c + 1 : Nat) : Int))).heap.size) := Lib.hid (by
    have h9 := HM2.out
    refine ⟨⟨(h9.hdr.set 13 _).congr fun j hj => ?_, h9.seg.other (a := ⟨p, 13, none⟩) (fun x hx => ?_) _, h9.off.set (.inl (.inl rfl)) _⟩, ?_⟩
    ·by_cases e : j = 13
     ·subst e; rfl
     ·rw [if_neg e]
      unfold Sk.hf
      rw [if_neg e, if_neg e]
    ·show x.b ≠ p
     rcases List.mem_append.1 hx with hx | hx
     ·exact HP.out x (List.mem_append_left _ hx)
     ·rcases List.mem_cons.1 hx with rfl | hx
      ·have := HNB.out; have := HPW.out; show nb ≠ p; omega
      ·exact HP.out x (List.mem_append_right _ hx)
    ·have := h9.seg.alive ⟨nb, gn, .slice a m q, row, c, k⟩ (by simp)
     simpa [World.setCell] using this)
   have hc0 : (0 : Int) ≤ (c : Int) := by omega
   have hci : (c : Int) ≤ 1000000 := by omega
   have hcc : ((c + 1 : Nat) : Int) = (c : Int) + 1 := by omega
   rw [hcc] at HF
   have HNBL : Hid (w.heap.size ≤ nb) := Lib.hid (by have := HNB.out; omega)
   clear HM2 HP2 HOFF HD HP HNB hcc
   go_wp2
   go_end0
   exact ⟨rfl, nb, HNBL.out, HF.out.2, k, hh1, st', HF.out.1⟩
end
section
open Go Go.RowKit
theorem Sk.w64 (x : Int) : IntKind.i64.wrap x = wrap64 x := by unfold wrap64; exact IntKind.wrap_i64 x
theorem Sk.More.of {S : Nat → Prop} {w w' : World} {b : Nat} (h : S b) : Sk.More S w w' b := .inl h
theorem Sk.PL.fin {S : Nat → Prop} {w W : World} {p : Nat} {N N' : List Sk.Nd} (h : Sk.PL S w p N) (ho : w.heap.size ≤ W.heap.size)
 (hdr : ∃ st : Int, W.rowIs p 109 15 (Sk.hf (.int .u64 st) (.int .i64 (N'.length : Int)) (.int .i64 (wrap64 (Sk.bytes (N'.map Sk.Nd.d) : Int))) N'))
 (seg : Sk.Seg W N' []) (nodup : (N'.map Sk.Nd.b).Nodup) (num : ∀ x ∈ N', x.num < N'.length) (asc : Sk.Asc Sk.kn N') (hgt : ∀ x ∈ N', 1 ≤ x.h)
 (nodes : ∀ x ∈ N', Sk.More S w W x.b)
 (rows : ∀ x ∈ N', (∃ y ∈ N, y.rv = x.rv ∧ y.row = x.row) ∨ (Sk.Rw w.heap.size W x.rv x.row ∧ x.row ≠ [] ∧ (∀ v ∈ x.row, Kn.Z v) ∧ x.row.length ≤ 4398046511104))
 (keep : ∀ b, b < w.heap.size → b ≠ p → (∀ x ∈ N, b ≠ x.b) → W.heap[b]? = w.heap[b]?) : Sk.PL (Sk.More S w W) W p N' := by
 have hrow : ∀ y ∈ N, ∀ b, y.rv.ownBlock = some b → b < w.heap.size ∧ W.heap[b]? = w.heap[b]? := fun y hy b hb => by
  obtain ⟨cs, hcs⟩ := (h.rows y hy).1.typed b hb
  have hlt := (Array.getElem?_eq_some_iff.1 hcs).1
  refine ⟨hlt, keep b hlt (fun e => ?_) fun x hx e => ?_⟩
  ·obtain ⟨st, c, h1, _⟩ := h.hdr
   rw [← e, hcs] at h1
   simp only [Option.some.injEq, Obj.cells.injEq] at h1
   exact absurd h1.2.1 (by decide)
  ·obtain ⟨r, c, h1, _⟩ := h.seg.mem hx
   rw [← e, hcs] at h1
   simp only [Option.some.injEq, Obj.cells.injEq] at h1
   exact absurd h1.2.1 (by decide)
 refine ⟨hdr, seg, nodup, num, fun x hx => ?_, fun x hx b hb => ?_, .inl h.mine, nodes, fun b hb => ?_, asc, hgt⟩
 ·rcases rows x hx with ⟨y, hy, e1, e2⟩ | ⟨h1, h2⟩
  ·have := h.rows y hy
   rw [← e1, ← e2]
   exact ⟨this.1.same fun b hb => (hrow y hy b hb).2, this.2⟩
  ·exact ⟨h1.mono (Nat.zero_le _), h2⟩
 ·rcases rows x hx with ⟨y, hy, e1, e2⟩ | ⟨h1, _⟩
  ·exact .inl (h.ownS y hy b (by rw [e1]; exact hb))
  ·exact .inr ⟨h1.base_le b hb, h1.lt b hb⟩
 ·rcases hb with hb | hb
  ·exact Nat.lt_of_lt_of_le (h.alive b hb) ho
  ·exact hb.2
theorem Sk.bytes_app (A B : List Dd.D) : Sk.bytes (A ++ B) = Sk.bytes A + Sk.bytes B := by unfold Sk.bytes; rw [List.map_append, List.sum_append]
theorem Sk.bytes_cons (d : Dd.D) (B : List Dd.D) : Sk.bytes (d :: B) = 8 + Sk.rowB d.row + Sk.bytes B := by unfold Sk.bytes; rw [List.map_cons, List.sum_cons]; rfl
theorem Sk.wrap_in (b s t : Nat) (h : t = b + s) : wrap64 (wrap64 (b : Int) + wrap64 (s : Int)) = wrap64 (t : Int) := by
 subst h
 unfold wrap64
 omega
theorem Sk.wrap_out (b s r t : Nat) (h : t + s = b + r) : wrap64 (wrap64 (wrap64 (b : Int) - wrap64 (s : Int)) + wrap64 (r : Int)) = wrap64 (t : Int) := by
 unfold wrap64
 omega
def Sk.Nd.anew (x : Sk.Nd) (g : Bool) (u : Value) (row : List Kn.V) : Sk.Nd := ⟨x.b, g, u, row, x.num, x.h⟩
theorem Sk.lnk_anew (x : Sk.Nd) (g : Bool) (u : Value) (row : List Kn.V) (i : Nat) (A B : List Sk.Nd) : Sk.lnk i (A ++ x.anew g u row :: B) = Sk.lnk i (A ++ x :: B) := by
 induction A with
 | nil => rfl
 | cons y A ih => rw [List.cons_append, List.cons_append, Sk.lnk, Sk.lnk, ih]
theorem Sk.Seg.anew {w : World} {A B : List Sk.Nd} {x : Sk.Nd} (h : Sk.Seg w (A ++ x :: B) []) (hd : ((A ++ x :: B).map Sk.Nd.b).Nodup) (g : Bool) (u : Value) (row : List Kn.V) :
 Sk.Seg ((w.setCell ⟨x.b, 0, none⟩ (.bool g)).setCell ⟨x.b, 1, none⟩ u) (A ++ x.anew g u row :: B) [] := by
 obtain ⟨hA, hx, hB⟩ := (Sk.seg_append A (x :: B) []).1 h
 rw [List.append_nil] at hA hx
 rw [List.map_append, List.nodup_append, List.map_cons, List.nodup_cons] at hd
 obtain ⟨_, ⟨hxB, _⟩, hAx⟩ := hd
 have nA : ∀ y ∈ A, y.b ≠ x.b := fun y hy e => hAx _ (List.mem_map_of_mem hy) _ List.mem_cons_self e
 have nB : ∀ y ∈ B, y.b ≠ x.b := fun y hy e => hxB (e ▸ List.mem_map_of_mem hy)
 refine (Sk.seg_append A _ []).2 ⟨?_, ?_, ?_⟩
 ·rw [List.append_nil]
  exact ((hA.other (a := ⟨x.b, 0, none⟩) nA _).other (a := ⟨x.b, 1, none⟩) nA _).tail fun i R => Sk.lnk_anew x g u row i R B
 ·rw [List.append_nil]
  refine ((hx.set 0 (.bool g)).set 1 u).congr fun j _ => ?_
  unfold Sk.Nd.f
  by_cases h1 : j = 1
  ·rw [if_pos h1, if_neg (by omega), if_pos h1]; rfl
  ·rw [if_neg h1]
   by_cases h0 : j = 0
   ·rw [if_pos h0, if_pos h0]; rfl
   ·rw [if_neg h0, if_neg h0, if_neg h0, if_neg h1, if_neg h1]; rfl
 ·exact (hB.other (a := ⟨x.b, 0, none⟩) nB _).other (a := ⟨x.b, 1, none⟩) nB _
theorem Sk.hf_set {w : World} {p : Nat} {st c b : Value} {N N' : List Sk.Nd} {t : TypeId} (h : w.rowIs p t 15 (Sk.hf st c b N)) (hl : ∀ i, Sk.lnk i N' = Sk.lnk i N) (v : Value) : (w.setCell ⟨p, 14, none⟩ v).rowIs p t 15 (Sk.hf st c v N') :=
 (h.set 14 v).congr fun j hj => by
  unfold Sk.hf
  by_cases h1 : j = 14
  ·rw [if_pos h1, if_neg (by omega), if_neg (by omega), if_neg (by omega)]
  ·rw [if_neg h1]
   by_cases h2 : j < 12
   ·rw [if_pos h2, if_pos h2, hl]
   ·rw [if_neg h2, if_neg h2]
    by_cases h3 : j = 12
    ·rw [if_pos h3, if_pos h3]
    ·rw [if_neg h3, if_neg h3, if_pos (by omega), if_pos (by omega)]
theorem Sk.there_of_get {N : List Sk.Nd} {k : Kn.V} (h : Sk.get Sk.kn N k = none) : Sk.there Sk.kn N k = false := by
 cases ht : Sk.there Sk.kn N k with
 | false => rfl
 | true =>
   obtain ⟨x, hx, _⟩ := Sk.there_some ht
   unfold Sk.get at h
   rw [if_pos ht, hx] at h
   cases h
theorem Sk.there_of_some {N : List Sk.Nd} {k : Kn.V} {x : Sk.Nd} (h : Sk.get Sk.kn N k = some x) : Sk.there Sk.kn N k = true := by
 unfold Sk.get at h
 split at h
 ·assumption
 ·cases h
theorem Sk.Off.pl {S : Nat → Prop} {w W5 w6 : World} {p : Nat} {N : List Sk.Nd} (h : Sk.PL S w p N) (hb : Below w.heap.size w W5) (ho : Sk.Off (fun b => b = p ∨ ∃ x ∈ N, x.b = b) W5 w6) : Sk.Off S w w6 :=
 ⟨ho.os.trans hb.os, ho.tape.trans hb.tape, ho.output.trans hb.output, Nat.le_trans hb.size ho.size, fun k hk hs => by
  refine (ho.block k (Nat.lt_of_lt_of_le hk hb.size) ?_).trans (hb.block k hk)
  rintro (e | ⟨x, hx, e⟩)
  ·exact hs (e ▸ h.mine)
  ·exact hs (e ▸ h.nodes x hx)⟩
theorem Sk.PL.inserted {S : Nat → Prop} {w W5 w6 w7 : World} {p : Nat} {N : List Sk.Nd} {n : Sk.Nd} {st : Int} {bt : Value} (h : Sk.PL S w p N) (hb : Below w.heap.size w W5)
 (hm : Sk.MS W5 p (N.take (Sk.at_ Sk.kn N (Sk.kn n))) (N.drop (Sk.at_ Sk.kn N (Sk.kn n))) n st (.int .i64 ((N.length + 1 : Nat) : Int)) bt w6) (ht : Sk.there Sk.kn N (Sk.kn n) = false)
 (hnum : n.num = N.length) (hh : 1 ≤ n.h) (hnb : W5.heap.size ≤ n.b) (hnb2 : n.b < w6.heap.size) (hr : Sk.Rw w.heap.size w6 n.rv n.row) (hne : n.row ≠ []) (hz : ∀ v ∈ n.row, Kn.Z v) (hl : n.row.length ≤ 4398046511104)
 (g7 : Below w6.heap.size w6 w7) {s : Int} (hs : s = wrap64 (Sk.bytes ((Sk.put Sk.kn N n).map Sk.Nd.d) : Int)) :
 Sk.PL (Sk.More S w (w7.setCell ⟨p, 14, none⟩ (.int .i64 s))) (w7.setCell ⟨p, 14, none⟩ (.int .i64 s)) p (Sk.put Sk.kn N n) ∧ Sk.Off S w (w7.setCell ⟨p, 14, none⟩ (.int .i64 s)) := by
 have hput : Sk.put Sk.kn N n = N.take (Sk.at_ Sk.kn N (Sk.kn n)) ++ n :: N.drop (Sk.at_ Sk.kn N (Sk.kn n)) := by unfold Sk.put; rw [ht]; rfl
 have hasc := Sk.put_asc h.asc n
 obtain ⟨hhd, hsg, hof⟩ := hm
 rw [List.take_append_drop] at hof
 rw [hput] at hasc hs ⊢
 have hN := (List.take_append_drop (Sk.at_ Sk.kn N (Sk.kn n)) N).symm
 generalize N.take (Sk.at_ Sk.kn N (Sk.kn n)) = A at *
 generalize N.drop (Sk.at_ Sk.kn N (Sk.kn n)) = B at *
 have hpw : p < w.heap.size := h.alive p h.mine
 have hsz : W5.heap.size ≤ w6.heap.size := hof.size
 have hsw : w.heap.size ≤ W5.heap.size := hb.size
 have hoff : Sk.Off S w w6 := Sk.Off.pl h hb hof
 have hmem : ∀ x, x ∈ A ++ n :: B ↔ x = n ∨ x ∈ N := fun x => by
  rw [hN]
  simp only [List.mem_append, List.mem_cons]
  exact ⟨fun h => by rcases h with h | h | h; exact .inr (.inl h); exact .inl h; exact .inr (.inr h), fun h => by rcases h with h | h | h; exact .inr (.inl h); exact .inl h; exact .inr (.inr h)⟩
 have hlen : (A ++ n :: B).length = N.length + 1 := by rw [hN]; simp; omega
 refine ⟨h.fin ?_ ?_ ?_ ?_ ?_ hasc ?_ ?_ ?_ ?_, ?_⟩
 ·have := g7.size; simp [World.setCell]; omega
 ·refine ⟨st, ?_⟩
  rw [hlen, ← hs]
  exact Sk.hf_set (hhd.of_block (g7.block p (by omega))) (fun _ => rfl) _
 ·refine (hsg.same fun x hx => g7.block x.b (hsg.alive x hx)).other (a := ⟨p, 14, none⟩) (fun x hx => ?_) _
  show x.b ≠ p
  rcases (hmem x).1 hx with rfl | hx
  ·omega
  ·exact h.ne x hx
 ·have h1 : (((n :: N).map Sk.Nd.b)).Nodup := by
   rw [List.map_cons, List.nodup_cons]
   refine ⟨fun hx => ?_, h.nodup⟩
   obtain ⟨x, hx, e⟩ := List.mem_map.1 hx
   have := h.alive _ (h.nodes x hx)
   omega
  have hp : ((A ++ n :: B).map Sk.Nd.b).Perm ((n :: N).map Sk.Nd.b) := List.Perm.map _ (by rw [hN]; exact List.perm_middle)
  exact hp.nodup_iff.2 h1
 ·intro x hx
  rw [hlen]
  rcases (hmem x).1 hx with rfl | hx
  ·omega
  ·have := h.num x hx; omega
 ·intro x hx
  rcases (hmem x).1 hx with rfl | hx
  ·exact hh
  ·exact h.hgt x hx
 ·intro x hx
  rcases (hmem x).1 hx with rfl | hx
  ·exact .inr ⟨by omega, by have := g7.size; simp [World.setCell]; omega⟩
  ·exact .inl (h.nodes x hx)
 ·intro x hx
  rcases (hmem x).1 hx with rfl | hx
  ·exact .inr ⟨(hr.kept g7).same fun b hb => Below.heap_setCell _ _ _ _ (by have := hr.base_le b hb; show b ≠ p; omega), hne, hz, hl⟩
  ·exact .inl ⟨x, hx, rfl, rfl⟩
 ·intro b hb1 hb2 hb3
  refine (Below.heap_setCell _ _ _ _ hb2).trans ((g7.block b (by omega)).trans ((hof.block b (by omega) ?_).trans (hb.block b hb1)))
  rintro (e | ⟨x, hx, e⟩)
  ·exact hb2 e
  ·exact hb3 x hx e.symm
 ·exact (hoff.then g7).set (.inl h.mine) _
theorem Sk.PL.replaced {S : Nat → Prop} {w w6 w7 w8 : World} {p : Nat} {N : List Sk.Nd} {x : Sk.Nd} {g : Bool} {u : Value} {row : List Kn.V} {k : Kn.V} {v1 : Value} (h : Sk.PL S w p N) (h6 : Sk.PL S w6 p N) (hb : Below w.heap.size w w6)
 (hx : N[Sk.at_ Sk.kn N k]? = some x) (ht : Sk.there Sk.kn N k = true) (hk : Sk.kd ⟨g, row⟩ = k)
 (hr : Sk.Rw w.heap.size w6 u row) (hne : row ≠ []) (hz : ∀ v ∈ row, Kn.Z v) (hl : row.length ≤ 4398046511104)
 (h7 : w7 = ((w6.setCell ⟨p, 14, none⟩ v1).setCell ⟨x.b, 0, none⟩ (.bool g)).setCell ⟨x.b, 1, none⟩ u) (g8 : Below w7.heap.size w7 w8)
 {s : Int} (hs : s = wrap64 (Sk.bytes (Sk.put Sk.kd (N.map Sk.Nd.d) ⟨g, row⟩) : Int)) :
 ∃ N', Sk.PL (Sk.More S w (w8.setCell ⟨p, 14, none⟩ (.int .i64 s))) (w8.setCell ⟨p, 14, none⟩ (.int .i64 s)) p N' ∧ N'.map Sk.Nd.d = Sk.put Sk.kd (N.map Sk.Nd.d) ⟨g, row⟩ ∧ Sk.Off S w (w8.setCell ⟨p, 14, none⟩ (.int .i64 s)) := by
 have hxm := List.mem_of_getElem? hx
 have hkn : Sk.kn (x.anew g u row) = k := hk
 have hput : Sk.put Sk.kn N (x.anew g u row) = N.take (Sk.at_ Sk.kn N k) ++ x.anew g u row :: N.drop (Sk.at_ Sk.kn N k + 1) := by unfold Sk.put; rw [hkn, ht]; rfl
 have hmap : (Sk.put Sk.kn N (x.anew g u row)).map Sk.Nd.d = Sk.put Sk.kd (N.map Sk.Nd.d) ⟨g, row⟩ := (Sk.map_put (key := Sk.kn) Sk.Nd.d Sk.kd (fun _ => rfl) N (x.anew g u row)).symm
 have hasc := Sk.put_asc h.asc (x.anew g u row)
 refine ⟨Sk.put Sk.kn N (x.anew g u row), ?_⟩
 rw [← hmap] at hs
 refine ⟨?_, hmap, ?_⟩
 rotate_left
 ·have h1 : Sk.Off S w w7 := by
   rw [h7]
   exact (((Sk.Off.of_below hb).set (a := ⟨p, 14, none⟩) (.inl h.mine) _).set (a := ⟨x.b, 0, none⟩) (.inl (h.nodes x hxm)) _).set (a := ⟨x.b, 1, none⟩) (.inl (h.nodes x hxm)) _
  exact (h1.then g8).set (.inl h.mine) _
 have hN : N = N.take (Sk.at_ Sk.kn N k) ++ x :: N.drop (Sk.at_ Sk.kn N k + 1) := by
  obtain ⟨hi, rfl⟩ := List.getElem?_eq_some_iff.1 hx
  rw [List.getElem_cons_drop, List.take_append_drop]
 rw [hput] at hasc hs ⊢
 generalize N.take (Sk.at_ Sk.kn N k) = A at *
 generalize N.drop (Sk.at_ Sk.kn N k + 1) = B at *
 have hpw : p < w.heap.size := h.alive p h.mine
 have hsw : w.heap.size ≤ w6.heap.size := hb.size
 have hs7 : w7.heap.size = w6.heap.size := by rw [h7]; simp [World.setCell]
 have hmem : ∀ y, y ∈ A ++ x.anew g u row :: B → y = x.anew g u row ∨ y ∈ N := fun y hy => by
  rw [hN]
  simp only [List.mem_append, List.mem_cons] at hy ⊢
  rcases hy with h | h | h
  ·exact .inr (.inl h)
  ·exact .inl h
  ·exact .inr (.inr (.inr h))
 have hlen : (A ++ x.anew g u row :: B).length = N.length := by rw [hN]; simp
 have hbs : (A ++ x.anew g u row :: B).map Sk.Nd.b = N.map Sk.Nd.b := by rw [hN]; simp [Sk.Nd.anew]
 obtain ⟨st, hhd⟩ := h6.hdr
 have hxp : x.b ≠ p := h.ne x hxm
 have hhd7 : w7.rowIs p 109 15 (Sk.hf (.int .u64 st) (.int .i64 (N.length : Int)) v1 N) := by
  rw [h7]
  exact ((Sk.hf_set hhd (fun _ => rfl) v1).setOther (a := ⟨x.b, 0, none⟩) (fun e => hxp e.symm) _).setOther (a := ⟨x.b, 1, none⟩) (fun e => hxp e.symm) _
 have hsg7 : Sk.Seg w7 (A ++ x.anew g u row :: B) [] := by
  rw [h7]
  refine Sk.Seg.anew ?_ (by rw [← hN]; exact h.nodup) g u row
  rw [← hN]
  exact h6.seg.other (a := ⟨p, 14, none⟩) (fun y hy => h.ne y hy) _
 refine h.fin ?_ ?_ ?_ ?_ ?_ hasc ?_ ?_ ?_ ?_
 ·have := g8.size; simp [World.setCell]; omega
 ·refine ⟨st, ?_⟩
  rw [hlen, ← hs]
  refine Sk.hf_set (hhd7.of_block (g8.block p (by omega))) (fun i => ?_) _
  rw [Sk.lnk_anew, ← hN]
 ·refine (hsg7.same fun y hy => g8.block y.b (hsg7.alive y hy)).other (a := ⟨p, 14, none⟩) (fun y hy => ?_) _
  rcases hmem y hy with rfl | hy
  ·exact hxp
  ·exact h.ne y hy
 ·rw [hbs]; exact h.nodup
 ·intro y hy
  rw [hlen]
  rcases hmem y hy with rfl | hy
  ·exact h.num x hxm
  ·exact h.num y hy
 ·intro y hy
  rcases hmem y hy with rfl | hy
  ·exact h.hgt x hxm
  ·exact h.hgt y hy
 ·intro y hy
  rcases hmem y hy with rfl | hy
  ·exact .inl (h.nodes x hxm)
  ·exact .inl (h.nodes y hy)
 ·intro y hy
  rcases hmem y hy with rfl | hy
  ·refine .inr ⟨?_, hne, hz, hl⟩
   have hxw := h.alive _ (h.nodes x hxm)
   have h1 : Sk.Rw w.heap.size w7 u row := by
    rw [h7]
    exact ((hr.put hpw).put hxw).put hxw
   exact Sk.Rw.put (h1.kept g8) hpw
  ·exact .inl ⟨y, hy, rfl, rfl⟩
 ·intro b hb1 hb2 hb3
  refine (Below.heap_setCell _ _ _ _ hb2).trans ((g8.block b (by omega)).trans (.trans ?_ (hb.block b hb1)))
  rw [h7]
  exact (Below.heap_setCell _ _ _ _ (hb3 x hxm)).trans ((Below.heap_setCell _ _ _ _ (hb3 x hxm)).trans (Below.heap_setCell _ _ _ _ hb2))
end
end Go.Proofs.YtkhiemkekmdhgaaGreatDoor
