import Derived.Test.YthfgcilaikjhpaaZBAD
import Derived.Deep.RegionHeld3
import Derived.Deep.OwnRows
import Derived.Test.YthfgcilaikjhpaaZBAC
import Derived.Deep.Slices
import Derived.Deep.Fields
import Derived.ChangeSame
import Derived.ProofKit
import Derived.OpenShut
import Derived.SizedLaws
import Derived.Test.YthfgcilaikjhpaaRows
namespace Go.Proofs.Ythfgcilaikjhpaa
section
open Go.RowKit Go.Maps
theorem Mf.Ps.len_le {w : World} {v : Value} {L : List Mf.P} (h : Mf.Ps w v L) : ∃ a c, v = .slice a L.length c := by
 obtain ⟨a, c, e, -⟩ := h.form
 exact ⟨a, c, e⟩
theorem Mf.Bk.new (w : World) (B : Nat) (hB : B ≤ w.heap.size) (f n : Int) :
 Mf.Bk B ((w.alloc (.map #[] 0)).alloc (.cells #[.map (some w.heap.size), .int .i64 0, .int .i64 f, .int .i64 n] 48)) (w.heap.size + 1) [] 0 f n := by
 refine ⟨w.heap.size, fun _ => none, ?_, ?_, ?_, ?_, ?_, by omega, hB, List.Pairwise.nil, ?_, ?_⟩
 ·have := heap_alloc_new (w.alloc (.map #[] 0)) (.cells #[.map (some w.heap.size), .int .i64 0, .int .i64 f, .int .i64 n] 48)
  rw [World.size_alloc] at this
  exact this
 ·exact (Mf.PM.made w).same (((Below.refl _ _).alloc (Nat.le_refl _) _).block w.heap.size (by rw [World.size_alloc]; omega))
 ·intro x v h; cases h
 ·intro x _; rfl
 ·intro x y u v _ h; cases h
 ·intro y h; cases h
 ·intro y h; cases h
set_option maxHeartbeats 4000000 in
set_option maxRecDepth 100000 in
theorem Mf.bookOf_c (u : Value) (s : Mf.S) (w : World) (hp : Mf.Ps w u s.parts) (hk : ∀ p ∈ s.parts, Ty.I64 p.id) (hl : s.parts.length ≤ 1000000000000) :
 Calls Try.prog 10 #[Mf.sv u s] w fun e w' => ∃ q K, e = .returned (.pointer (some ⟨q, 0, none⟩)) ∧ Mf.Bk w.heap.size w' q K s.parts.length s.floor s.next ∧ K.map (·.2) = s.parts ∧ Below w.heap.size w w' := by
 obtain ⟨L, f, n⟩ := s
 unfold Mf.sv
 simp only at hp hk hl ⊢
 obtain ⟨a, c, rfl⟩ := hp.len_le
 obtain ⟨w0, hw0⟩ : ∃ w0, w0 = w.alloc (.cells #[.slice a L.length c, .int .i64 f, .int .i64 n] 26) := ⟨_, rfl⟩
 have hb0 : Below w.heap.size w w0 := by rw [hw0]; exact (Below.refl _ _).alloc (Nat.le_refl _) _
 have hs0 : w0.heap.size = w.heap.size + 1 := by rw [hw0]; exact World.size_alloc ..
 obtain ⟨c0, c1, c2⟩ : Mf.SA w0 w.heap.size (.slice a L.length c) f n := by rw [hw0]; exact Mf.SA.new w _ f n _
 obtain ⟨w1, hw1⟩ : ∃ w1, w1 = w0.alloc (.map #[] 0) := ⟨_, rfl⟩
 obtain ⟨w2, hw2⟩ : ∃ w2, w2 = w1.alloc (.cells #[.map (some w0.heap.size), .int .i64 0, .int .i64 f, .int .i64 n] 48) := ⟨_, rfl⟩
 have hb1 : Below w0.heap.size w0 w1 := by rw [hw1]; exact (Below.refl _ _).alloc (Nat.le_refl _) _
 have hs1 : w1.heap.size = w.heap.size + 2 := by rw [hw1, World.size_alloc, hs0]
 have hb2 : Below w0.heap.size w0 w2 := by rw [hw2]; exact hb1.alloc hb1.size _
 have hbk := Mf.Bk.new w0 w.heap.size (by omega) f n
 rw [← hw1, ← hw2, hs0] at hbk
 obtain ⟨d0, d1, d2⟩ : Mf.SA w1 w.heap.size (.slice a L.length c) f n := Mf.SA.kept ⟨c0, c1, c2⟩ hb1
 obtain ⟨e0, e1, e2⟩ : Mf.SA w2 w.heap.size (.slice a L.length c) f n := Mf.SA.kept ⟨c0, c1, c2⟩ hb2
 have HBK := Lib.hid hbk
 have HB := Lib.hid (hb0.trans (hb2.mono hb0.size))
 have HP := Lib.hid hp
 have HKI := Lib.hid hk
 have HL := Lib.hid hl
 have hln : (L.length : Int) ≤ 1000000000000 := by omega
 have hmm := @run_makeMap Try.prog
 rw [hw1] at d0 d1 d2
 rw [hs0] at hw2
 clear hp hk hl hb0 hb1 hb2 hbk
 go_enter Try.func10, Try.ntmps10
 go_wp2_with fail
 rw [← hw0]
 clear hw0
 go_wp2_with fail
 rw [← hw1, ← hw2]
 clear hw1 hw2 c0 c1 c2 d0 d1 d2 hmm
 go_wp2_with fail
 go_loopw [16] (fun i wr => ∃ (k : Nat) (K : List (Nat × Mf.P)), k ≤ L.length ∧ i = .int .i64 k ∧ Mf.Bk w.heap.size wr (w.heap.size + 2) K k f n ∧ K.map (·.2) = L.take k ∧ Below w.heap.size w wr) (fun i _ => L.length - (intOf i).toNat)
 case atStart => exact ⟨0, [], Nat.zero_le _, rfl, HBK.out, rfl, HB.out⟩
 case round =>
  obtain ⟨k, K, hk, rfl, hK, hm, hB⟩ := hrel
  have hk0 : (0 : Int) ≤ (k : Int) := by omega
  have HK := Lib.hid hK
  have HM := Lib.hid hm
  have HBB := Lib.hid hB
  by_cases hkl : k < L.length
  ·have hx := List.getElem?_eq_getElem hkl
   have hmem := List.getElem_mem hkl
   generalize L[k] = p at hx hmem
   obtain ⟨b1, o1, rfl, ⟨p0, p1, p2, p3, p4, p5, p6, p7⟩⟩ := Mf.Ps.at_ (HP.out.kept hB) hx
   have hki : (k : Int) < (L.length : Int) := by omega
   have hA : Below wr.heap.size wr (wr.alloc (.cells (Mf.cs p) 39)) := (Below.refl _ _).alloc (Nat.le_refl _) _
   have HBA := Lib.hid (hB.trans (hA.mono hB.size))
   have hpn := Mf.PA.new wr p 39
   have CADD := Mf.add_c (hK.kept hA) (HBA.out.size) p (HKI.out p hmem) (by have := HL.out; omega)
   have HNX : Hid ((K ++ [(k, p)]).map (·.2) = L.take (k + 1)) := Lib.hid (by rw [List.map_append, HM.out, List.take_add_one, hx]; rfl)
   obtain ⟨id, lv, ⟨an, ai, sa⟩, ⟨bn, bi, sb⟩⟩ := p
   unfold Mf.P.val Mf.cs at CADD
   unfold Mf.cs at hpn
   simp only at p0 p1 p2 p3 p4 p5 p6 p7 hpn CADD
   obtain ⟨s0, s1, s2, s3, s4, s5, s6, s7⟩ := hpn
   clear hx hmem hK hm hB hA
   go_wp2_with fail
   with_reducible refine CADD.mono ?_
   rintro e w5 ⟨rfl, hK5, hT5⟩
   have HK5 := Lib.hid hK5
   have HT5 := Lib.hid (HBA.out.trans hT5.below)
   clear hK5 hT5 CADD
   go_wp2
   go_roundw
   case rel => exact ⟨k + 1, _, by omega, by simp, HK5.out, HNX.out, HT5.out⟩
   case measure => simp [intOf]; omega
  ·obtain rfl : k = L.length := by omega
   have hki : ¬ (L.length : Int) < (L.length : Int) := by omega
   rw [List.take_length] at hm
   have HM2 := Lib.hid hm
   clear hk hkl hk0 hK hm hB HM
   go_wp2
   go_ret
   exact ⟨_, rfl, K, HK.out, HM2.out, HBB.out⟩
end
section
open Go.RowKit Go.Maps
set_option maxHeartbeats 4000000 in
set_option maxRecDepth 100000 in
theorem Mf.apply_c (vs vd va : Value) (s : Mf.S) (e : Mf.E) (w : World) (hs : Mf.Ps w vs s.parts) (hd : Mf.Is w vd e.drop) (ha : Mf.Ps w va e.add) (hk : ∀ p ∈ s.parts, Ty.I64 p.id) (hl : s.parts.length ≤ 999999998000) :
 Calls Try.prog 6 #[Mf.sv vs s, .agg #[vd, va, .int .i64 e.floor, .int .i64 e.next]] w (Mf.GotS w (Mf.ap s e)) := by
 obtain ⟨L, f0, n0⟩ := s
 obtain ⟨D, A, fl, nx⟩ := e
 unfold Mf.sv
 simp only at hs hd ha hk hl ⊢
 obtain ⟨wa, hwa⟩ : ∃ wa, wa = w.alloc (.cells #[vs, .int .i64 f0, .int .i64 n0] 26) := ⟨_, rfl⟩
 obtain ⟨wb, hwb⟩ : ∃ wb, wb = wa.alloc (.cells #[vd, va, .int .i64 fl, .int .i64 nx] 32) := ⟨_, rfl⟩
 obtain ⟨wc, hwc⟩ : ∃ wc, wc = wb.alloc (.cells #[.slice none 0 0, .int .i64 0, .int .i64 0] 26) := ⟨_, rfl⟩
 have ga : Below w.heap.size w wa := by rw [hwa]; exact (Below.refl _ _).alloc (Nat.le_refl _) _
 have gb : Below wa.heap.size wa wb := by rw [hwb]; exact (Below.refl _ _).alloc (Nat.le_refl _) _
 have gc : Below wb.heap.size wb wc := by rw [hwc]; exact (Below.refl _ _).alloc (Nat.le_refl _) _
 have sa : wa.heap.size = w.heap.size + 1 := by rw [hwa]; exact World.size_alloc ..
 have sb : wb.heap.size = w.heap.size + 2 := by rw [hwb, World.size_alloc, sa]
 have sc : wc.heap.size = w.heap.size + 3 := by rw [hwc, World.size_alloc, sb]
 have gbc : Below wa.heap.size wa wc := gb.trans (gc.mono gb.size)
 have gac : Below w.heap.size w wc := ga.trans (gbc.mono ga.size)
 have hSA : Mf.SA wc w.heap.size vs f0 n0 := by
  have := Mf.SA.new w vs f0 n0 26
  rw [← hwa] at this
  exact this.kept gbc
 have hEA : Mf.EA wc (w.heap.size + 1) vd va fl nx := by
  have := Mf.EA.new wa vd va fl nx 32
  rw [← hwb, sa] at this
  exact this.kept gc
 have hyr : wc.heap[w.heap.size + 2]? = some (.cells #[.slice none 0 0, .int .i64 0, .int .i64 0] 26 (0, 0)) := by
  have := heap_alloc_new wb (.cells #[.slice none 0 0, .int .i64 0, .int .i64 0] 26)
  rw [← hwc, sb] at this
  exact this
 have CB := Mf.bookOf_c vs ⟨L, f0, n0⟩ wc (hs.kept gac) hk (by show L.length ≤ _; omega)
 unfold Mf.sv at CB
 simp only at CB
 have HD := Lib.hid (hd.kept gac)
 have HAA := Lib.hid (ha.kept gac)
 have HEA := Lib.hid hEA
 have HYR := Lib.hid hyr
 have HB := Lib.hid gac
 have HSC := Lib.hid sc
 have HL := Lib.hid hl
 generalize hR : Mf.ap ⟨L, f0, n0⟩ ⟨D, A, fl, nx⟩ = r
 have HR := Lib.hid hR
 obtain ⟨c0, c1, c2⟩ := hSA
 clear hR hs hd ha hk hl ga gb gc gbc gac hEA hyr
 go_enter Try.func6, Try.ntmps6
 go_wp2_with fail
 rw [← hwa]
 rw [← hwb]
 rw [← hwc]
 clear hwa hwb hwc
 go_wp2_with fail
 with_reducible refine CB.mono ?_
 rintro e w1 ⟨q, K, rfl, hK, hm, hB1⟩
 have HK := Lib.hid hK
 have HM := Lib.hid hm
 have HB1 := Lib.hid hB1
 obtain ⟨e0, e1, e2, e3⟩ := HEA.out.kept hB1
 have CA := Mf.bapply_c hK hB1.size vd va ⟨D, A, fl, nx⟩ (HD.out.kept hB1) (HAA.out.kept hB1) (fun W g => ⟨HD.out.kept (HB1.out.trans g.below), HAA.out.kept (HB1.out.trans g.below)⟩) HL.out
 rw [hm] at CA
 simp only at CA
 rw [HR.out] at CA
 unfold Mf.GotB at CA
 clear hK hm hB1 CB c0 c1 c2
 go_wp2_with fail
 with_reducible refine CA.mono ?_
 rintro e w2 ⟨hT, ⟨hr, rfl⟩ | ⟨t, K', pl', hr, rfl, hK', hm', hpl⟩⟩
 ·have hb2 := HB.out.trans ((HB1.out.trans hT.below).mono HB.out.size)
  have hyr2 := ((HB1.out.trans hT.below).block (w.heap.size + 2) (by have := HSC.out; omega)).trans HYR.out
  obtain ⟨⟨y0, y1, y2⟩, z0, z1, z2⟩ := Mf.three hyr2
  have HF := Lib.hid (Mf.GotS.bad (r := r) hr (Mf.below3 (q := w.heap.size + 2) hb2 (by omega) (.slice none 0 0) (.int .i64 0) (.int .i64 0)))
  clear hr hT hb2 hyr2 CA e0 e1 e2 e3
  go_wp2
  (try simp only [Exit.inBlock, Exit.then])
  refine bodyPost_ret (v := .tuple #[.agg #[.slice none 0 0, .int .i64 0, .int .i64 0], .int .i64 8]) ?_ rfl HF.out
  rw [results_cell_tmp rfl]
  go_simp
 ·have CS := Mf.state_c hK' (by have := HL.out; omega)
  have HT := Lib.hid hT
  have HM' := Lib.hid hm'
  clear hT hK' hm' CA e0 e1 e2 e3
  go_wp2_with fail
  with_reducible refine CS.mono ?_
  rintro e w3 ⟨u, rfl, hu, hB3⟩
  rw [HM'.out] at hu
  have hb2 : Below wc.heap.size wc w2 := HB1.out.trans HT.out.below
  have hb3 := hb2.trans (hB3.mono hb2.size)
  have hyr3 := (hb3.block (w.heap.size + 2) (by have := HSC.out; omega)).trans HYR.out
  obtain ⟨⟨y0, y1, y2⟩, z0, z1, z2⟩ := Mf.three hyr3
  obtain ⟨T, tf, tn⟩ := t
  simp only at hu
  obtain ⟨ua, uc, rfl⟩ := hu.ps.len_le
  have HPF := Lib.hid (World.ownsRow.mono (Mf.at_off hu hyr3 (by decide) (Mf.heap3 w3 (w.heap.size + 2) (.slice ua T.length uc) (.int .i64 tf) (.int .i64 tn))) (HB.out.trans (hb2.mono HB.out.size)).size)
  have HBF := Lib.hid (Mf.below3 (q := w.heap.size + 2) (HB.out.trans (hb3.mono HB.out.size)) (by omega) (.slice ua T.length uc) (.int .i64 tf) (.int .i64 tn))
  have HFF := Lib.hid (Mf.GotS.good (r := r) hr HPF.out HBF.out)
  clear hr hu hB3 hb2 hb3 hyr3 CS
  unfold Mf.sv
  go_wp2
  (try simp only [Exit.inBlock, Exit.then])
  refine bodyPost_ret (v := .tuple #[.agg #[.slice ua T.length uc, .int .i64 tf, .int .i64 tn], .int .i64 0]) ?_ rfl HFF.out
  rw [results_cell_tmp rfl]
  go_simp
end
section
open Go Go.RowKit
def Mf.v0 : Kn.V := ⟨false, 0, ⟨#[]⟩⟩
def Mf.p1 : Mf.P := ⟨1, 0, Mf.v0, Mf.v0⟩
def Mf.p2 : Mf.P := ⟨2, 0, Mf.v0, Mf.v0⟩
theorem Mf.cmp0 : Kn.cmp Mf.v0 Mf.v0 = 0 := by
 have := Kn.cmp_zero Mf.v0 Mf.v0
 rw [show Kn.same Mf.v0 Mf.v0 = true from by simp [Kn.same]] at this
 simpa using this
theorem Mf.part1 : Mf.part Mf.p1 = true := by
 have h : decide (Kn.cmp Mf.p1.lo Mf.p1.hi ≤ 0) = true := by rw [show Kn.cmp Mf.p1.lo Mf.p1.hi = 0 from Mf.cmp0]; decide
 unfold Mf.part
 rw [h]
 decide
theorem Mf.part2 : Mf.part Mf.p2 = true := by
 have h : decide (Kn.cmp Mf.p2.lo Mf.p2.hi ≤ 0) = true := by rw [show Kn.cmp Mf.p2.lo Mf.p2.hi = 0 from Mf.cmp0]; decide
 unfold Mf.part
 rw [h]
 decide
theorem Mf.ap1 : Mf.ap ⟨[], 0, 0⟩ ⟨[], [Mf.p1], 0, 2⟩ = some ⟨[Mf.p1], 0, 2⟩ := by
 unfold Mf.ap
 rw [if_pos ⟨by simp [Mf.right, Mf.part1, Mf.nm], by decide, by decide⟩]
 simp [Mf.dr, Mf.ad, Mf.has, Mf.p1]
theorem Mf.ap2 : Mf.ap ⟨[Mf.p1], 0, 2⟩ ⟨[1], [Mf.p2], 0, 3⟩ = some ⟨[Mf.p2], 0, 3⟩ := by
 unfold Mf.ap
 rw [if_pos ⟨by simp [Mf.right, Mf.part2, Mf.nm], by decide, by decide⟩]
 simp [Mf.dr, Mf.ad, Mf.has, Mf.wo, Mf.p1, Mf.p2]
theorem Mf.i64p1 : ∀ p ∈ [Mf.p1], Ty.I64 p.id := fun p hp => by
 obtain rfl : p = Mf.p1 := by simpa using hp
 exact ⟨by decide, by decide⟩
theorem Mf.Ps.one (w : World) (p : Mf.P) : Mf.Ps (w.alloc (.cells (Mf.cs p) 39)) (.slice (some ⟨w.heap.size, 0, none⟩) 1 1) [p] := by
 refine ⟨_, 1, rfl, Nat.le_refl _, .inr ⟨w.heap.size, 0, _, (39, (0, 0)), rfl, trivial, heap_alloc_new w _, fun i j x hi hj => ?_⟩⟩
 have h0 : i = 0 := by
  have := (List.getElem?_eq_some_iff.1 hi).1
  simp at this
  omega
 subst h0
 obtain rfl : p = x := by simpa using hi
 match j, hj with
 | 0, _ => exact Kn.cell_new w _ _ 0 _ rfl
 | 1, _ => exact Kn.cell_new w _ _ 1 _ rfl
 | 2, _ => exact Kn.cell_new w _ _ 2 _ rfl
 | 3, _ => exact Kn.cell_new w _ _ 3 _ rfl
 | 4, _ => exact Kn.cell_new w _ _ 4 _ rfl
 | 5, _ => exact Kn.cell_new w _ _ 5 _ rfl
 | 6, _ => exact Kn.cell_new w _ _ 6 _ rfl
 | 7, _ => exact Kn.cell_new w _ _ 7 _ rfl
theorem Mf.Is.one (w : World) (d : Int) : Mf.Is (w.alloc (.cells #[.int .i64 d] 3)) (.slice (some ⟨w.heap.size, 0, none⟩) 1 1) [d] := by
 refine ⟨_, 1, rfl, Nat.le_refl _, .inr ⟨w.heap.size, 0, _, (3, (0, 0)), rfl, trivial, heap_alloc_new w _, fun i j x hi hj => ?_⟩⟩
 have h0 : i = 0 := by
  have := (List.getElem?_eq_some_iff.1 hi).1
  simp at this
  omega
 subst h0
 obtain rfl : d = x := by simpa using hi
 have h1 : j = 0 := by omega
 subst h1
 exact Kn.cell_new w _ _ 0 _ rfl
set_option maxHeartbeats 4000000 in
set_option maxRecDepth 100000 in
theorem Mf.lives_c (w : World) : Calls Try.prog 5 #[] w fun e w' => e = .returned (.bool true) ∧ Below w.heap.size w w' := by
 have hA : Below w.heap.size w (w.alloc (.cells (Mf.cs Mf.p1) 39)) := (Below.refl _ _).alloc (Nat.le_refl _) _
 have C1 := Mf.apply_c (.slice none 0 0) (.slice none 0 0) (.slice (some ⟨w.heap.size, 0, none⟩) 1 1) ⟨[], 0, 0⟩ ⟨[], [Mf.p1], 0, 2⟩ _ (Mf.At.nil _) (Mf.At.nil _) (Mf.Ps.one w Mf.p1) (fun _ h => nomatch h) (Nat.zero_le _)
 rw [Mf.ap1] at C1
 unfold Mf.GotS Mf.sv Mf.st Mf.er at C1
 simp only [Mf.cs, Mf.p1, Mf.v0] at C1 hA
 have HA := Lib.hid hA
 clear hA
 go_enter Try.func5, Try.ntmps5
 go_wp2_with fail
 with_reducible refine C1.mono ?_
 rintro e w1 ⟨u, rfl, hu, hB⟩
 have HB1 := Lib.hid (HA.out.trans (hB.mono HA.out.size))
 obtain ⟨ua, uc, rfl⟩ := hu.ps.len_le
 have HU := Lib.hid hu.ps
 simp only [List.length_cons, List.length_nil, Nat.reduceAdd] at HU ⊢
 clear C1 hu hB HA
 obtain ⟨w2, hw2⟩ : ∃ w2, w2 = w1.alloc (.cells #[.slice ua 1 uc, .int .i64 0, .int .i64 2] 26) := ⟨_, rfl⟩
 obtain ⟨w3, hw3⟩ : ∃ w3, w3 = w2.alloc (.cells #[.int .i64 1] 3) := ⟨_, rfl⟩
 obtain ⟨w4, hw4⟩ : ∃ w4, w4 = w3.alloc (.cells (Mf.cs Mf.p2) 39) := ⟨_, rfl⟩
 have g2 : Below w1.heap.size w1 w2 := by rw [hw2]; exact (Below.refl _ _).alloc (Nat.le_refl _) _
 have g3 : Below w1.heap.size w1 w3 := by rw [hw3]; exact g2.alloc g2.size _
 have g4 : Below w1.heap.size w1 w4 := by rw [hw4]; exact g3.alloc g3.size _
 have g34 : Below w3.heap.size w3 w4 := by rw [hw4]; exact (Below.refl _ _).alloc (Nat.le_refl _) _
 have g23 : Below w2.heap.size w2 w3 := by rw [hw3]; exact (Below.refl _ _).alloc (Nat.le_refl _) _
 have s2 : w2.heap.size = w1.heap.size + 1 := by rw [hw2]; exact World.size_alloc ..
 have s3 : w3.heap.size = w1.heap.size + 2 := by rw [hw3, World.size_alloc, s2]
 have hI : Mf.Is w4 (.slice (some ⟨w1.heap.size + 1, 0, none⟩) 1 1) [1] := by
  have := Mf.Is.one w2 1
  rw [← hw3, s2] at this
  exact this.kept g34
 have hP2 : Mf.Ps w4 (.slice (some ⟨w1.heap.size + 2, 0, none⟩) 1 1) [Mf.p2] := by
  have := Mf.Ps.one w3 Mf.p2
  rwa [← hw4, s3] at this
 have hS2 : Mf.SA w4 w1.heap.size (.slice ua 1 uc) 0 2 := by
  have := Mf.SA.new w1 (.slice ua 1 uc) 0 2 26
  rw [← hw2] at this
  exact this.kept (g23.trans (g34.mono g23.size))
 have hS : Mf.SA w2 w1.heap.size (.slice ua 1 uc) 0 2 := by
  have := Mf.SA.new w1 (.slice ua 1 uc) 0 2 26
  rwa [← hw2] at this
 have C2 := Mf.apply_c (.slice ua 1 uc) (.slice (some ⟨w1.heap.size + 1, 0, none⟩) 1 1) (.slice (some ⟨w1.heap.size + 2, 0, none⟩) 1 1) ⟨[Mf.p1], 0, 2⟩ ⟨[1], [Mf.p2], 0, 3⟩ w4 (HU.out.kept g4) hI hP2 Mf.i64p1 (by show 1 ≤ _; decide)
 rw [Mf.ap2] at C2
 unfold Mf.GotS Mf.sv Mf.st Mf.er at C2
 simp only [Mf.cs, Mf.p2, Mf.v0] at C2 hw4
 obtain ⟨c0, c1, c2⟩ := hS
 have HS2 := Lib.hid hS2
 have HB4 := Lib.hid (HB1.out.trans (g4.mono HB1.out.size))
 have HU4 := Lib.hid (HU.out.kept g4)
 clear g2 g3 g4 g34 g23 s3 hI hP2 hS2 HB1 HU
 go_wp2_with fail
 rw [← hw2]
 clear hw2
 go_wp2_with fail
 rw [← hw3]
 rw [← hw4]
 clear hw3 hw4
 go_wp2_with fail
 with_reducible refine C2.mono ?_
 rintro e w5 ⟨u2, rfl, hu, hB⟩
 have HB5 := Lib.hid (HB4.out.trans (hB.mono HB4.out.size))
 obtain ⟨ub, ud, rfl⟩ := hu.ps.len_le
 have HU2 := Lib.hid hu.ps
 simp only [List.length_cons, List.length_nil, Nat.reduceAdd] at HU2 ⊢
 have hS5 := HS2.out.kept hB
 clear C2 hu hB c0 c1 c2
 obtain ⟨w6, hw6⟩ : ∃ w6, w6 = w5.alloc (.cells #[.slice ub 1 ud, .int .i64 0, .int .i64 3] 26) := ⟨_, rfl⟩
 have g6 : Below w5.heap.size w5 w6 := by rw [hw6]; exact (Below.refl _ _).alloc (Nat.le_refl _) _
 have hT : Mf.SA w6 w5.heap.size (.slice ub 1 ud) 0 3 := by
  have := Mf.SA.new w5 (.slice ub 1 ud) 0 3 26
  rwa [← hw6] at this
 have HP6 := Lib.hid (HU2.out.kept g6)
 obtain ⟨b, o, rfl, hpa⟩ := Mf.Ps.at_ (L := [⟨2, 0, ⟨false, 0, ⟨#[]⟩⟩, ⟨false, 0, ⟨#[]⟩⟩⟩]) (HU2.out.kept g6) (i := 0) rfl
 have CS1 := Mf.same_c _ _ ⟨[⟨2, 0, ⟨false, 0, ⟨#[]⟩⟩, ⟨false, 0, ⟨#[]⟩⟩⟩], 0, 3⟩ w6 HP6.out HP6.out (by show 1 ≤ _; decide)
 unfold Mf.sv at CS1
 simp only at CS1
 have p0 : w6.cell? ⟨b, o, none⟩ = some (.int .i64 2) := hpa.c0
 have CS2 := Lib.hid fun (W : World) => Mf.same_no (.slice ua 1 uc) (.slice (some ⟨b, o, none⟩) 1 ud) 0 2 3 (by decide) ⟨_, _, _, rfl⟩ ⟨_, _, _, rfl⟩ W
 have HSA := Lib.hid (hS5.kept g6)
 have HSB := Lib.hid hT
 have HB6 := Lib.hid (HB5.out.trans (g6.mono HB5.out.size))
 obtain ⟨c0, c1, c2⟩ := hS5.kept g6
 obtain ⟨d0, d1, d2⟩ := hT
 rw [hw6] at p0
 clear hS5 g6 hpa HU2
 go_wp2_with fail
 rw [← hw6]
 clear hw6
 (try go_wp2_with fail)
 with_reducible refine CS1.mono ?_
 rintro e w7 ⟨rfl, hB7⟩
 have HB7 := Lib.hid (HB6.out.trans (hB7.mono HB6.out.size))
 obtain ⟨x0, x1, x2⟩ := HSA.out.kept hB7
 obtain ⟨y0, y1, y2⟩ := HSB.out.kept hB7
 clear CS1 hB7 c0 c1 c2 d0 d1 d2 p0
 go_wp2_with fail
 with_reducible refine (CS2.out _).mono ?_
 rintro e w8 ⟨rfl, hB8⟩
 have HB8 := Lib.hid (HB7.out.trans (hB8.mono HB7.out.size))
 clear hB8 x0 x1 x2 y0 y1 y2
 go_wp2
 go_ret
 exact ⟨rfl, HB8.out⟩
end
section
open Go Go.RowKit
set_option maxHeartbeats 1000000 in
set_option maxRecDepth 100000 in
theorem Mf.clone_c (v : Value) (L : List Mf.P) (w : World) (h : Mf.Ps w v L) (hl : L.length ≤ 1000000000000) :
 Calls Try.prog 13 #[v] w fun e w' => ∃ u, e = .returned u ∧ Mf.Ow w.heap.size w' u L ∧ Below w.heap.size w w' := by
 have hsrc := fun (W : World) (g : Below w.heap.size w W) => (h.kept g).src
 have hnil : v = .slice none 0 0 ∧ L = [] ∨ ∃ ad c, v = .slice (some ad) L.length c := by
  obtain ⟨a, c, rfl, hc, h⟩ := h
  rcases h with ⟨rfl, h0⟩ | ⟨b, o, cs, fr, rfl, _, _, _⟩
  ·cases a with
   | none => rw [h0 rfl]; exact .inl ⟨rfl, rfl⟩
   | some ad => exact .inr ⟨ad, c, rfl⟩
  ·exact .inr ⟨_, c, rfl⟩
 rcases hnil with ⟨rfl, rfl⟩ | ⟨ad, c, rfl⟩
 ·have he : ∀ w : World, (binOp .eql 24 (.slice none 0 0) (.slice none 0 0)).run Try.prog w = .ok (.bool true) w := fun _ => rfl
  clear h hl hsrc
  go_enter Try.func13, Try.ntmps13
  go_wp2
  go_ret
  exact ⟨_, rfl, Mf.Ow.nil _ _, Below.refl _ _⟩
 ·obtain ⟨w1, hw1⟩ : ∃ w1, w1 = w.alloc (.cells #[] 39) := ⟨_, rfl⟩
  have hb1 : Below w.heap.size w w1 := by rw [hw1]; exact (Below.refl _ w).alloc (Nat.le_refl _) _
  have ho : Mf.Ow w.heap.size w1 (.slice (some ⟨w.heap.size, 0, none⟩) 0 0) [] :=
   ⟨rfl, .inr ⟨w.heap.size, 0, #[], rfl, Nat.le_refl _, by rw [hw1]; exact heap_alloc_new w _, Nat.le_refl _, by decide, rfl, rfl⟩⟩
  have HO := Lib.hid ho
  have HS := Lib.hid (hsrc w1 hb1)
  have HL : Hid (w.heap.size ≤ w1.heap.size ∧ L.length ≤ 1000000000000) := Lib.hid ⟨hb1.size, hl⟩
  have HF : Hid (∀ v' w', Ty.Grew w1 w' (.slice (some ⟨w.heap.size, 0, none⟩) 0 0) v' → Below w.heap.size w w') := Lib.hid fun v' w' g => hb1.trans (g.below hb1.size (Dk.Own.base_le ho))
  have he : ∀ w : World, (binOp .eql 24 (.slice (some ad) L.length c) (.slice none 0 0)).run Try.prog w = .ok (.bool false) w := fun _ => rfl
  clear h hsrc ho hl hb1
  go_enter Try.func13, Try.ntmps13
  go_wp2_with (
   at_builtin
   rw [← hw1]
   refine Mf.wpList_part L HO.out HL.out.1 (by have := HL.out.2; simp; omega) HS.out _ _ rfl rfl rfl rfl ?_
   intro v' w' h1 h2
   obtain ⟨av, nv, cv, hv⟩ : ∃ a n c, v' = .slice a n c := h1.ps.form3
   have H1 := Lib.hid h1
   have H2 := Lib.hid h2
   clear h1 h2
   subst hv)
  go_ret
  exact ⟨_, rfl, H1.out, HF.out _ _ H2.out⟩
theorem Mf.quad {w : World} {q : Nat} {x y z t : Value} {T : TypeId} (h : w.heap[q]? = some (.cells #[x, y, z, t] T (0, 0))) :
 (w.cell? ⟨q, 0, none⟩ = some x ∧ w.cell? ⟨q, 1, none⟩ = some y ∧ w.cell? ⟨q, 2, none⟩ = some z ∧ w.cell? ⟨q, 3, none⟩ = some t) ∧ w.frozen? ⟨q, 0, none⟩ = false ∧ w.frozen? ⟨q, 1, none⟩ = false ∧ w.frozen? ⟨q, 2, none⟩ = false ∧ w.frozen? ⟨q, 3, none⟩ = false := by
 refine ⟨⟨?_, ?_, ?_, ?_⟩, ?_, ?_, ?_, ?_⟩ <;> simp [World.cell?, World.frozen?, h]
set_option maxHeartbeats 2000000 in
set_option maxRecDepth 100000 in
theorem Mf.snapshot_c (u : Value) (s : Mf.S) (w : World) (h : Mf.Ps w u s.parts) (hl : s.parts.length ≤ 1000000000000) :
 Calls Try.prog 7 #[Mf.sv u s] w fun e w' => ∃ v, e = .returned (.agg #[.slice none 0 0, v, .int .i64 s.floor, .int .i64 s.next]) ∧ Mf.Ps w' v s.parts ∧ Below w.heap.size w w' := by
 obtain ⟨L, f, n⟩ := s
 unfold Mf.sv
 simp only at h hl ⊢
 obtain ⟨a, c, rfl⟩ := h.len_le
 obtain ⟨wa, hwa⟩ : ∃ wa, wa = w.alloc (.cells #[.slice a L.length c, .int .i64 f, .int .i64 n] 26) := ⟨_, rfl⟩
 obtain ⟨wb, hwb⟩ : ∃ wb, wb = wa.alloc (.cells #[.slice none 0 0, .slice none 0 0, .int .i64 0, .int .i64 0] 32) := ⟨_, rfl⟩
 have ga : Below w.heap.size w wa := by rw [hwa]; exact (Below.refl _ _).alloc (Nat.le_refl _) _
 have gb : Below wa.heap.size wa wb := by rw [hwb]; exact (Below.refl _ _).alloc (Nat.le_refl _) _
 have sa : wa.heap.size = w.heap.size + 1 := by rw [hwa]; exact World.size_alloc ..
 have sb : wb.heap.size = w.heap.size + 2 := by rw [hwb, World.size_alloc, sa]
 have hSA : Mf.SA wb w.heap.size (.slice a L.length c) f n := by
  have := Mf.SA.new w (.slice a L.length c) f n 26
  rw [← hwa] at this
  exact this.kept gb
 have hyr : wb.heap[w.heap.size + 1]? = some (.cells #[.slice none 0 0, .slice none 0 0, .int .i64 0, .int .i64 0] 32 (0, 0)) := by
  have := heap_alloc_new wa (.cells #[.slice none 0 0, .slice none 0 0, .int .i64 0, .int .i64 0] 32)
  rw [← hwb, sa] at this
  exact this
 have gab := ga.trans (gb.mono ga.size)
 have HDR : Hid (Below wb.heap.size wb wb.drew) := Lib.hid (Kn.below_drewN (Below.refl _ _) 1)
 have CC := Lib.hid (Mf.clone_c _ L wb.drew ((h.kept gab).kept HDR.out) hl)
 have HSA := Lib.hid hSA
 have HYR := Lib.hid hyr
 have HB := Lib.hid gab
 have HSB := Lib.hid sb
 have HS0 : Hid (wb.drew.cell? ⟨w.heap.size, 0, none⟩ = some (.slice a L.length c) ∧ wb.drew.cell? ⟨w.heap.size, 1, none⟩ = some (.int .i64 f) ∧ wb.drew.cell? ⟨w.heap.size, 2, none⟩ = some (.int .i64 n)) := Lib.hid (by
  obtain ⟨c0, c1, c2⟩ := hSA.kept HDR.out
  exact ⟨c0, c1, c2⟩)
 have HS1 : Hid (∀ W, Below wb.drew.heap.size wb.drew W → W.cell? ⟨w.heap.size, 0, none⟩ = some (.slice a L.length c) ∧ W.cell? ⟨w.heap.size, 1, none⟩ = some (.int .i64 f) ∧ W.cell? ⟨w.heap.size, 2, none⟩ = some (.int .i64 n)) := Lib.hid fun W g => by
  obtain ⟨c0, c1, c2⟩ := (hSA.kept HDR.out).kept g
  exact ⟨c0, c1, c2⟩
 have HS2 : Hid (∀ (W : World) (x y z t : Value), Below wb.drew.heap.size wb.drew W → ((((W.setCell ⟨w.heap.size + 1, 0, none⟩ x).setCell ⟨w.heap.size + 1, 1, none⟩ y).setCell ⟨w.heap.size + 1, 2, none⟩ z).setCell ⟨w.heap.size + 1, 3, none⟩ t).cell? ⟨w.heap.size, 0, none⟩ = some (.slice a L.length c) ∧ ((((W.setCell ⟨w.heap.size + 1, 0, none⟩ x).setCell ⟨w.heap.size + 1, 1, none⟩ y).setCell ⟨w.heap.size + 1, 2, none⟩ z).setCell ⟨w.heap.size + 1, 3, none⟩ t).cell? ⟨w.heap.size, 1, none⟩ = some (.int .i64 f) ∧ ((((W.setCell ⟨w.heap.size + 1, 0, none⟩ x).setCell ⟨w.heap.size + 1, 1, none⟩ y).setCell ⟨w.heap.size + 1, 2, none⟩ z).setCell ⟨w.heap.size + 1, 3, none⟩ t).cell? ⟨w.heap.size, 2, none⟩ = some (.int .i64 n)) := Lib.hid fun W x y z t g => by
  have hh : ((((W.setCell ⟨w.heap.size + 1, 0, none⟩ x).setCell ⟨w.heap.size + 1, 1, none⟩ y).setCell ⟨w.heap.size + 1, 2, none⟩ z).setCell ⟨w.heap.size + 1, 3, none⟩ t).heap[w.heap.size]? = W.heap[w.heap.size]? :=
   (Below.heap_setCell _ _ _ _ (by show w.heap.size ≠ w.heap.size + 1; omega)).trans (Mf.heap3 W (w.heap.size + 1) x y z w.heap.size (by omega))
  obtain ⟨c0, c1, c2⟩ := HS1.out W g
  exact ⟨(World.cell?_of_block (a := ⟨w.heap.size, 0, none⟩) hh).trans c0, (World.cell?_of_block (a := ⟨w.heap.size, 1, none⟩) hh).trans c1, (World.cell?_of_block (a := ⟨w.heap.size, 2, none⟩) hh).trans c2⟩
 clear h hl ga gb hSA hyr gab
 go_enter Try.func7, Try.ntmps7
 go_wp2_with fail
 rw [← hwa]
 rw [← hwb]
 clear hwa hwb
 go_region_held3 (fun W => W.cell? ⟨w.heap.size, 0, none⟩ = some (.slice a L.length c) ∧ W.cell? ⟨w.heap.size, 1, none⟩ = some (.int .i64 f) ∧ W.cell? ⟨w.heap.size, 2, none⟩ = some (.int .i64 n))
  (first
   | exact HS0.out
   | exact HS1.out _ G1.out
   | exact HS2.out _ _ _ _ _ G1.out)
  (first
   | (go_at_call 13; (with_reducible refine CC.out.mono ?_); rintro e w1 ⟨v, rfl, hv, g1⟩; obtain ⟨av, nv, cv, rfl⟩ : ∃ a n c, v = .slice a n c := hv.ps.form3; have HV := Lib.hid hv; have G1 := Lib.hid g1; obtain ⟨⟨y0, y1, y2, y3⟩, z0, z1, z2, z3⟩ := Mf.quad ((g1.block (w.heap.size + 1) (by show w.heap.size + 1 < wb.heap.size; have := HSB.out; omega)).trans (show wb.drew.heap[w.heap.size + 1]? = _ from HYR.out)); clear hv g1))
 all_goals
  have HB1 : Hid (Below w.heap.size w w1) := Lib.hid ((HB.out.trans (HDR.out.mono HB.out.size)).trans (G1.out.mono (Nat.le_trans HB.out.size HDR.out.size)))
  have HQ : Hid (w1.heap[w.heap.size + 1]? = some (.cells #[.slice none 0 0, .slice none 0 0, .int .i64 0, .int .i64 0] 32 (0, 0))) := Lib.hid ((G1.out.block (w.heap.size + 1) (by show w.heap.size + 1 < wb.heap.size; have := HSB.out; omega)).trans (show wb.drew.heap[w.heap.size + 1]? = _ from HYR.out))
  have HPF := Lib.hid (Mf.at_off (w' := (((w1.setCell ⟨w.heap.size + 1, 0, none⟩ (.slice none 0 0)).setCell ⟨w.heap.size + 1, 1, none⟩ (.slice av nv cv)).setCell ⟨w.heap.size + 1, 2, none⟩ (.int .i64 f)).setCell ⟨w.heap.size + 1, 3, none⟩ (.int .i64 n)) HV.out HQ.out (by decide) (fun b h => (Below.heap_setCell _ _ _ _ (by show b ≠ _; exact h)).trans (Mf.heap3 _ _ _ _ _ b h))).ps
  have HBF := Lib.hid (Mf.below1 (Mf.below3 (q := w.heap.size + 1) HB1.out (by omega) (.slice none 0 0) (.slice av nv cv) (.int .i64 f)) (by omega : w.heap.size ≤ w.heap.size + 1) 3 (.int .i64 n))
  clear G1 HV
  go_wp2
  (try simp only [Exit.inBlock, Exit.then])
  refine bodyPost_ret (v := .agg #[.slice none 0 0, .slice av nv cv, .int .i64 f, .int .i64 n]) ?_ rfl ⟨_, rfl, HPF.out, HBF.out⟩
  rw [Mf.results_cell rfl]
  go_simp
structure Mf.EC (w : World) (b o : Nat) (vd va : Value) (f n : Int) : Prop where
 c0 : w.cell? ⟨b, o, none⟩ = some vd
 c1 : w.cell? ⟨b, o + 1, none⟩ = some va
 c2 : w.cell? ⟨b, o + 2, none⟩ = some (.int .i64 f)
 c3 : w.cell? ⟨b, o + 3, none⟩ = some (.int .i64 n)
theorem Mf.EC.lt {w : World} {b o : Nat} {vd va : Value} {f n : Int} (h : Mf.EC w b o vd va f n) : b < w.heap.size := World.block_lt_of_cell? w _ h.c0
theorem Mf.EC.kept {w w' : World} {b o : Nat} {vd va : Value} {f n : Int} (h : Mf.EC w b o vd va f n) (g : Below w.heap.size w w') : Mf.EC w' b o vd va f n :=
 ⟨(g.cell (p := ⟨b, o, none⟩) h.lt).trans h.c0, (g.cell (p := ⟨b, o + 1, none⟩) h.lt).trans h.c1, (g.cell (p := ⟨b, o + 2, none⟩) h.lt).trans h.c2, (g.cell (p := ⟨b, o + 3, none⟩) h.lt).trans h.c3⟩
def Mf.Es (w : World) (v : Value) (L : List Mf.E) : Prop := ∃ a c, v = .slice a L.length c ∧ (L = [] ∨ ∃ b o, a = some ⟨b, o, none⟩ ∧ ∀ (i : Nat) (e : Mf.E), L[i]? = some e → ∃ vd va, Mf.EC w b (o + i * 4) vd va e.floor e.next ∧ Mf.Is w vd e.drop ∧ Mf.Ps w va e.add)
theorem Mf.Es.at_ {w : World} {a : Option Addr} {c : Nat} {L : List Mf.E} (h : Mf.Es w (.slice a L.length c) L) {i : Nat} {e : Mf.E} (hi : L[i]? = some e) : ∃ b o vd va, a = some ⟨b, o, none⟩ ∧ Mf.EC w b (o + i * 4) vd va e.floor e.next ∧ Mf.Is w vd e.drop ∧ Mf.Ps w va e.add := by
 obtain ⟨a', c', e1, h⟩ := h
 simp only [Value.slice.injEq, true_and] at e1
 obtain ⟨rfl, rfl⟩ := e1
 rcases h with rfl | ⟨b, o, rfl, h⟩
 ·cases hi
 ·obtain ⟨vd, va, h1, h2, h3⟩ := h i e hi
  exact ⟨b, o, vd, va, rfl, h1, h2, h3⟩
theorem Mf.Es.kept {w w' : World} {v : Value} {L : List Mf.E} (h : Mf.Es w v L) (g : Below w.heap.size w w') : Mf.Es w' v L := by
 obtain ⟨a, c, hv, h⟩ := h
 refine ⟨a, c, hv, ?_⟩
 rcases h with h | ⟨b, o, ha, h⟩
 ·exact .inl h
 ·exact .inr ⟨b, o, ha, fun i e hi => by
   obtain ⟨vd, va, h1, h2, h3⟩ := h i e hi
   exact ⟨vd, va, h1.kept g, h2.kept g, h3.kept g⟩⟩
set_option maxRecDepth 100000
structure Mf.Gd (s : Mf.S) (k : Nat) : Prop where
 ok : Mf.Ok s
 fl : Mf.nm s.floor = true
 nx : Mf.nm s.next = true
 len : s.parts.length ≤ k * 1000
theorem Mf.Gd.none : Mf.Gd ⟨[], 0, 0⟩ 0 := ⟨Mf.Ok.none, rfl, rfl, Nat.le_refl _⟩
theorem Mf.Gd.step {s t : Mf.S} {e : Mf.E} {k : Nat} (h : Mf.Gd s k) (he : Mf.ap s e = some t) : Mf.Gd t (k + 1) := by
 have hl := Mf.ap_len he
 obtain ⟨hr, _, _, e1, e2, _⟩ := Mf.ap_some he
 obtain ⟨_, _, _, _, r5, r6⟩ := (Mf.right_iff e).1 hr
 exact ⟨h.ok.step he, by rw [e1]; exact r5, by rw [e2]; exact r6, by have := h.len; omega⟩
theorem Mf.Gd.mono {s : Mf.S} {k : Nat} (h : Mf.Gd s k) : Mf.Gd s (k + 1) := ⟨h.ok, h.fl, h.nx, by have := h.len; omega⟩
theorem Mf.Gd.ids {s : Mf.S} {k : Nat} (h : Mf.Gd s k) : ∀ p ∈ s.parts, Ty.I64 p.id := fun p hp => Mf.nm_i64 (Mf.part_id (h.ok.part p hp))
end
section
open Go Go.RowKit
structure Mf.Lp (w wr : World) (p : Nat) (u : Value) (s : Mf.S) (k : Nat) : Prop where
 box : wr.heap[p]? = some (.cells #[u, .int .i64 s.floor, .int .i64 s.next] 26 (0, 0))
 own : Mf.Ow (p + 1) wr u s.parts
 gd : Mf.Gd s k
 below : Below w.heap.size w wr
 at_ : w.heap.size ≤ p
 size : p + 1 ≤ wr.heap.size
theorem Mf.Lp.kept {w wr w' : World} {p : Nat} {u : Value} {s : Mf.S} {k : Nat} (h : Mf.Lp w wr p u s k) (g : Below wr.heap.size wr w') : Mf.Lp w w' p u s k :=
 ⟨(g.block p h.size).trans h.box, h.own.kept g, h.gd, h.below.trans (g.mono h.below.size), h.at_, Nat.le_trans h.size g.size⟩
theorem Mf.Lp.more {w wr : World} {p : Nat} {u : Value} {s : Mf.S} {k : Nat} (h : Mf.Lp w wr p u s k) : Mf.Lp w wr p u s (k + 1) := ⟨h.box, h.own, h.gd.mono, h.below, h.at_, h.size⟩
theorem Mf.Lp.set {w wr w1 : World} {p : Nat} {u u' : Value} {s t : Mf.S} {k k' : Nat} (h : Mf.Lp w wr p u s k) (g : Below wr.heap.size wr w1) (hu : Mf.Ow (p + 1) w1 u' t.parts) (hg : Mf.Gd t k') :
 Mf.Lp w (((w1.setCell ⟨p, 0, none⟩ u').setCell ⟨p, 1, none⟩ (.int .i64 t.floor)).setCell ⟨p, 2, none⟩ (.int .i64 t.next)) p u' t k' := by
 have h1 := h.kept g
 refine ⟨?_, Dk.Own.same hu fun b hb => Mf.heap3 _ _ _ _ _ b (by have := (World.ownsRow.lt hu b hb).1; omega), hg, Mf.below3 h1.below h1.at_ _ _ _, h1.at_, by have := h1.size; simp only [World.setCell, Array.size_modify]; exact this⟩
 exact heap_setCell_same _ p 2 _ _ _ (heap_setCell_same _ p 1 _ _ _ (heap_setCell_same w1 p 0 _ _ _ h1.box))
structure Mf.Nw (wr w5 : World) (p q : Nat) (u : Value) (t : Mf.S) : Prop where
 box : w5.heap[q]? = some (.cells #[u, .int .i64 t.floor, .int .i64 t.next] 26 (0, 0))
 own : Mf.Ow (p + 1) w5 u t.parts
 below : Below wr.heap.size wr w5
theorem Mf.Nw.a {wr w3 : World} {p : Nat} {u : Value} {t : Mf.S} (hp : p + 1 ≤ wr.heap.size) (hu : Mf.Ow wr.drew.heap.size w3 u t.parts) (g : Below wr.drew.heap.size wr.drew w3) :
 Mf.Nw wr (w3.alloc (.cells #[u, .int .i64 t.floor, .int .i64 t.next] 26)) p w3.heap.size u t :=
 ⟨heap_alloc_new w3 _, World.ownsRow.alloc (World.ownsRow.mono hu hp) _, ((Kn.below_drewN (Below.refl _ _) 1).trans g).alloc g.size _⟩
theorem Mf.Nw.b {wr w3 : World} {p : Nat} {u : Value} {t : Mf.S} (hp : p + 1 ≤ wr.heap.size) (hu : Mf.Ow (wr.alloc (.cells #[.slice none 0 0, .int .i64 0, .int .i64 0] 26)).drew.heap.size w3 u t.parts)
 (g : Below (wr.alloc (.cells #[.slice none 0 0, .int .i64 0, .int .i64 0] 26)).drew.heap.size (wr.alloc (.cells #[.slice none 0 0, .int .i64 0, .int .i64 0] 26)).drew w3) :
 Mf.Nw wr (((w3.setCell ⟨wr.heap.size, 0, none⟩ u).setCell ⟨wr.heap.size, 1, none⟩ (.int .i64 t.floor)).setCell ⟨wr.heap.size, 2, none⟩ (.int .i64 t.next)) p wr.heap.size u t := by
 have hsz : (wr.alloc (.cells #[.slice none 0 0, .int .i64 0, .int .i64 0] 26)).drew.heap.size = wr.heap.size + 1 := World.size_alloc ..
 have hb := (g.block wr.heap.size (by rw [hsz]; omega)).trans (show (wr.alloc (.cells #[.slice none 0 0, .int .i64 0, .int .i64 0] 26)).drew.heap[wr.heap.size]? = _ from heap_alloc_new wr _)
 have hA : Below wr.heap.size wr (wr.alloc (.cells #[.slice none 0 0, .int .i64 0, .int .i64 0] 26)).drew := Kn.below_drewN ((Below.refl _ _).alloc (Nat.le_refl _) _) 1
 refine ⟨heap_setCell_same _ _ 2 _ _ _ (heap_setCell_same _ _ 1 _ _ _ (heap_setCell_same w3 _ 0 _ _ _ hb)), Dk.Own.same (World.ownsRow.mono hu (by rw [hsz]; omega)) fun b hb => Mf.heap3 _ _ _ _ _ b (by have := (World.ownsRow.lt hu b hb).1; omega), Mf.below3 (hA.trans (g.mono hA.size)) (Nat.le_refl _) _ _ _⟩
set_option maxHeartbeats 8000000 in
set_option maxRecDepth 100000 in
theorem Mf.snap_w (v : Value) (L : List Mf.E) (w : World) (hL : Mf.Es w v L) :
 Calls Try.prog 3 #[v] w fun e w' => e = .returned (.bool true) ∧ Below w.heap.size w w' := by
 have HES := Lib.hid hL
 obtain ⟨a, c, rfl, -⟩ := hL
 have hll : ((L.length : Nat) : Int) = ((L.length : Nat) : Int) := rfl
 clear hll
 go_enter Try.func3, Try.ntmps3
 go_wp2_with fail
 with_reducible refine (Mf.lives_c w).mono ?_
 rintro e w1 ⟨rfl, g1⟩
 obtain ⟨w2, hw2⟩ : ∃ w2, w2 = w1.alloc (.cells #[.slice none 0 0, .int .i64 0, .int .i64 0] 26) := ⟨_, rfl⟩
 obtain ⟨p, hp⟩ : ∃ p, p = w1.heap.size := ⟨_, rfl⟩
 have hlp : Mf.Lp w w2 p (.slice none 0 0) ⟨[], 0, 0⟩ 0 := by
  have g2 : Below w1.heap.size w1 w2 := by rw [hw2]; exact (Below.refl _ _).alloc (Nat.le_refl _) _
  have hb := heap_alloc_new w1 (.cells #[.slice none 0 0, .int .i64 0, .int .i64 0] 26)
  rw [← hw2, ← hp] at hb
  exact ⟨hb, Mf.Ow.nil _ _, Mf.Gd.none, g1.trans (g2.mono g1.size), by have := g1.size; omega, by rw [hw2, World.size_alloc]; omega⟩
 have HLP := Lib.hid hlp
 clear g1 hlp
 go_wp2_with fail
 rw [← hw2]
 rw [← hp]
 clear hw2 hp
 go_loopw [4] (fun i wr => ∃ (k : Nat) (u : Value) (s : Mf.S), k ≤ L.length ∧ k ≤ 50 ∧ i = .int .i64 k ∧ Mf.Lp w wr p u s k) (fun i _ => L.length - (intOf i).toNat)
 case atStart => exact ⟨0, _, _, Nat.zero_le _, Nat.zero_le _, rfl, HLP.out⟩
 case round =>
  obtain ⟨k, u, s, hk, hk50, rfl, hlp⟩ := hrel
  have hk0 : (0 : Int) ≤ (k : Int) := by omega
  have HP := Lib.hid hlp
  obtain ⟨au, cu, rfl⟩ := hlp.own.ps.len_le
  have hk9 : (k : Int) ≤ 50 := by omega
  by_cases hgo : k < L.length ∧ k < 50
  ·obtain ⟨hkl, hk5⟩ := hgo
   have hx := List.getElem?_eq_getElem hkl
   generalize L[k] = e at hx
   obtain ⟨b, o, vd, va, rfl, hEC, hD, hA⟩ := (HES.out.kept hlp.below).at_ hx
   have hki : (k : Int) < (L.length : Int) := by omega
   have hki5 : (k : Int) < 50 := by omega
   have HDR : Hid (Below wr.heap.size wr wr.drew) := Lib.hid (Kn.below_drewN (Below.refl _ _) 1)
   have CA := Lib.hid (Mf.apply_c (.slice au s.parts.length cu) vd va s e wr.drew (hlp.own.ps.kept HDR.out) (hD.kept HDR.out) (hA.kept HDR.out) hlp.gd.ids (by have := hlp.gd.len; omega))
   have HS0 : Hid ((wr.drew.cell? ⟨p, 0, none⟩ = some (.slice au s.parts.length cu) ∧ wr.drew.cell? ⟨p, 1, none⟩ = some (.int .i64 s.floor) ∧ wr.drew.cell? ⟨p, 2, none⟩ = some (.int .i64 s.next)) ∧ wr.drew.cell? ⟨b, o + k * 4, none⟩ = some vd ∧ wr.drew.cell? ⟨b, o + k * 4 + 1, none⟩ = some va ∧ wr.drew.cell? ⟨b, o + k * 4 + 2, none⟩ = some (.int .i64 e.floor) ∧ wr.drew.cell? ⟨b, o + k * 4 + 3, none⟩ = some (.int .i64 e.next)) := Lib.hid (by
    obtain ⟨c0, c1, c2, c3⟩ := hEC.kept HDR.out
    exact ⟨(Mf.three (hlp.kept HDR.out).box).1, c0, c1, c2, c3⟩)
   have HS1 : Hid (∀ W, Below wr.drew.heap.size wr.drew W → (W.cell? ⟨p, 0, none⟩ = some (.slice au s.parts.length cu) ∧ W.cell? ⟨p, 1, none⟩ = some (.int .i64 s.floor) ∧ W.cell? ⟨p, 2, none⟩ = some (.int .i64 s.next)) ∧ W.cell? ⟨b, o + k * 4, none⟩ = some vd ∧ W.cell? ⟨b, o + k * 4 + 1, none⟩ = some va ∧ W.cell? ⟨b, o + k * 4 + 2, none⟩ = some (.int .i64 e.floor) ∧ W.cell? ⟨b, o + k * 4 + 3, none⟩ = some (.int .i64 e.next)) := Lib.hid fun W g => by
    obtain ⟨c0, c1, c2, c3⟩ := (hEC.kept HDR.out).kept g
    exact ⟨(Mf.three ((hlp.kept HDR.out).kept g).box).1, c0, c1, c2, c3⟩
   have HSTEP := Lib.hid fun (t : Mf.S) (h : Mf.ap s e = some t) => hlp.gd.step h
   have HDA : Hid (Below wr.drew.heap.size wr.drew (wr.alloc (.cells #[.slice none 0 0, .int .i64 0, .int .i64 0] 26)).drew) := Lib.hid ((Below.refl wr.drew.heap.size wr.drew).alloc (Nat.le_refl _) _)
   have CB := Lib.hid (Mf.apply_c (.slice au s.parts.length cu) vd va s e (wr.alloc (.cells #[.slice none 0 0, .int .i64 0, .int .i64 0] 26)).drew ((hlp.own.ps.kept HDR.out).kept HDA.out) ((hD.kept HDR.out).kept HDA.out) ((hA.kept HDR.out).kept HDA.out) hlp.gd.ids (by have := hlp.gd.len; omega))
   have HSP : Hid (p + 1 ≤ wr.heap.size) := Lib.hid hlp.size
   have HSA : Hid ((wr.alloc (.cells #[.slice none 0 0, .int .i64 0, .int .i64 0] 26)).drew.heap.size = wr.heap.size + 1) := Lib.hid (World.size_alloc ..)
   have HAN : Hid ((wr.alloc (.cells #[.slice none 0 0, .int .i64 0, .int .i64 0] 26)).drew.heap[wr.heap.size]? = some (.cells #[.slice none 0 0, .int .i64 0, .int .i64 0] 26 (0, 0))) := Lib.hid (heap_alloc_new wr _)
   generalize Mf.ap s e = r at CA CB HSTEP
   obtain ⟨SP, SF, SN⟩ := s
   obtain ⟨ED, EA, EF, EN⟩ := e
   unfold Mf.sv Mf.GotS at CA CB
   simp only at CA CB HS0 HS1 HP HSTEP ⊢
   clear hx hlp hEC hD hA
   go_wp2_with fail
   go_region_held3 (fun W => (W.cell? ⟨p, 0, none⟩ = some (.slice au SP.length cu) ∧ W.cell? ⟨p, 1, none⟩ = some (.int .i64 SF) ∧ W.cell? ⟨p, 2, none⟩ = some (.int .i64 SN)) ∧ W.cell? ⟨b, o + k * 4, none⟩ = some vd ∧ W.cell? ⟨b, o + k * 4 + 1, none⟩ = some va ∧ W.cell? ⟨b, o + k * 4 + 2, none⟩ = some (.int .i64 EF) ∧ W.cell? ⟨b, o + k * 4 + 3, none⟩ = some (.int .i64 EN))
    (first
     | exact HS0.out
     | exact HS1.out _ HDA.out
     | exact HS1.out _ G3.out
     | exact HS1.out _ (G3.out.alloc G3.out.size _)
     | exact HS1.out _ (Mf.below3 (G3.out.alloc G3.out.size _) G3.out.size _ _ _)
     | exact HS1.out _ (Mf.below3 G3.out (Nat.le_refl _) _ _ _))
    (first
     | (go_at_call 6; (with_reducible refine CA.out.mono ?_); rintro e w3 ⟨u3, rfl, hu3, g3⟩; obtain ⟨a3, c3, rfl⟩ := hu3.ps.len_le; have HU3 := Lib.hid hu3; have G3 := Lib.hid g3; obtain ⟨⟨y0, y1, y2⟩, z0, z1, z2⟩ := Mf.three (heap_alloc_new w3 (.cells #[.slice none 0 0, .int .i64 0, .int .i64 0] 26)); clear hu3 g3)
     | (go_at_call 6; (with_reducible refine CB.out.mono ?_); rintro e w3 ⟨u3, rfl, hu3, g3⟩; obtain ⟨a3, c3, rfl⟩ := hu3.ps.len_le; have HU3 := Lib.hid hu3; have G4 := Lib.hid g3; have G3 := Lib.hid (HDA.out.trans (g3.mono HDA.out.size)); obtain ⟨⟨y0, y1, y2⟩, z0, z1, z2⟩ := Mf.three ((g3.block wr.heap.size (by rw [HSA.out]; omega)).trans HAN.out); clear hu3 g3))
   ·have NW := Lib.hid (Mf.Nw.a (p := p) (t := Mf.st r) HSP.out HU3.out G3.out)
    have HA0 := Lib.hid HU3.out
    clear HU3 G3
    obtain ⟨w5, hw5⟩ : ∃ w5, w5 = w3.alloc (.cells #[.slice a3 (Mf.st r).parts.length c3, .int .i64 (Mf.st r).floor, .int .i64 (Mf.st r).next] 26) := ⟨_, rfl⟩
    obtain ⟨q, hq⟩ : ∃ q, q = w3.heap.size := ⟨_, rfl⟩
    rw [← hw5, ← hq] at NW
    rw [← hw5]
    first
     | rw [← hq]
     | skip
    clear hw5 hq
    clear HA0 CA CB HS0 HS1 HDR HDA HSA HAN
    rcases r with _ | ⟨TP, TF, TN⟩
    ·have HM := Lib.hid (HP.out.kept NW.out.below).more
     clear NW HSTEP
     simp only [Mf.er]
     go_wp2
     go_roundw
     case rel => exact ⟨k + 1, _, _, by omega, by omega, by simp, HM.out⟩
     case measure => simp [intOf]; omega
    ·have HM := Lib.hid (HP.out.set NW.out.below NW.out.own (HSTEP.out _ rfl))
     obtain ⟨⟨b0, b1, b2⟩, f0, f1, f2⟩ := Mf.three (HP.out.kept NW.out.below).box
     obtain ⟨⟨d0, d1, d2⟩, -⟩ := Mf.three NW.out.box
     clear NW HSTEP
     simp only [Mf.er, Mf.st] at HM d0 d1 d2 ⊢
     go_wp2
     go_roundw
     case rel => exact ⟨k + 1, _, _, by omega, by omega, by simp, HM.out⟩
     case measure => simp [intOf]; omega
   ·have NW := Lib.hid (Mf.Nw.b (p := p) (t := Mf.st r) HSP.out HU3.out G4.out)
    have HA0 := Lib.hid HU3.out
    clear HU3 G3
    obtain ⟨w5, hw5⟩ : ∃ w5, w5 = ((w3.setCell ⟨wr.heap.size, 0, none⟩ (.slice a3 (Mf.st r).parts.length c3)).setCell ⟨wr.heap.size, 1, none⟩ (.int .i64 (Mf.st r).floor)).setCell ⟨wr.heap.size, 2, none⟩ (.int .i64 (Mf.st r).next) := ⟨_, rfl⟩
    obtain ⟨q, hq⟩ : ∃ q, q = wr.heap.size := ⟨_, rfl⟩
    rw [← hw5, ← hq] at NW
    rw [← hw5]
    first
     | rw [← hq]
     | skip
    clear hw5 hq
    clear HA0 CA CB HS0 HS1 HDR HDA HSA HAN
    rcases r with _ | ⟨TP, TF, TN⟩
    ·have HM := Lib.hid (HP.out.kept NW.out.below).more
     clear NW HSTEP
     simp only [Mf.er]
     go_wp2
     go_roundw
     case rel => exact ⟨k + 1, _, _, by omega, by omega, by simp, HM.out⟩
     case measure => simp [intOf]; omega
    ·have HM := Lib.hid (HP.out.set NW.out.below NW.out.own (HSTEP.out _ rfl))
     obtain ⟨⟨b0, b1, b2⟩, f0, f1, f2⟩ := Mf.three (HP.out.kept NW.out.below).box
     obtain ⟨⟨d0, d1, d2⟩, -⟩ := Mf.three NW.out.box
     clear NW HSTEP
     simp only [Mf.er, Mf.st] at HM d0 d1 d2 ⊢
     go_wp2
     go_roundw
     case rel => exact ⟨k + 1, _, _, by omega, by omega, by simp, HM.out⟩
     case measure => simp [intOf]; omega
  ·by_cases hkl : k < L.length
   ·have hki : (k : Int) < (L.length : Int) := by omega
    have hki5 : ¬ (k : Int) < 50 := by omega
    have CS := Mf.snapshot_c (.slice au s.parts.length cu) s wr hlp.own.ps (by have := hlp.gd.len; omega)
    obtain ⟨c0, c1, c2⟩ := (Mf.three hlp.box).1
    have hways : (s.parts.length ≤ 1000 ∧ Mf.ap ⟨[], 0, 0⟩ (Mf.snap s) = some s) ∨ (1000 < s.parts.length ∧ Mf.ap ⟨[], 0, 0⟩ (Mf.snap s) = none) := by
     by_cases h : s.parts.length ≤ 1000
     ·exact .inl ⟨h, Mf.snap_ap hlp.gd.ok h hlp.gd.fl hlp.gd.nx⟩
     ·exact .inr ⟨by omega, Mf.snap_not (by omega)⟩
    have HW := Lib.hid hways
    clear hways hk hk50 hk0 hgo
    obtain ⟨SP, SF, SN⟩ := s
    unfold Mf.sv Mf.snap at *
    simp only at CS c0 c1 c2 HW hlp HP ⊢
    clear hlp
    go_wp2_with fail
    with_reducible refine CS.mono ?_
    rintro e w3 ⟨v3, rfl, hv3, g3⟩
    obtain ⟨a3, c3, rfl⟩ := hv3.len_le
    obtain ⟨w4, hw4⟩ : ∃ w4, w4 = w3.alloc (.cells #[.slice none 0 0, .slice a3 SP.length c3, .int .i64 SF, .int .i64 SN] 32) := ⟨_, rfl⟩
    have g4 : Below w3.heap.size w3 w4 := by rw [hw4]; exact (Below.refl _ _).alloc (Nat.le_refl _) _
    have hP4 := (HP.out.kept g3).kept g4
    have CA := Mf.apply_c (.slice none 0 0) (.slice none 0 0) (.slice a3 SP.length c3) ⟨[], 0, 0⟩ ⟨[], SP, SF, SN⟩ w4 (Mf.At.nil _) (Mf.At.nil _) (hv3.kept g4) (fun _ h => nomatch h) (Nat.zero_le _)
    unfold Mf.GotS Mf.sv at CA
    simp only at CA
    have HP4 := Lib.hid hP4
    clear CS c0 c1 c2 hv3 g3 g4 hP4
    go_wp2_with fail
    rw [← hw4]
    clear hw4
    rcases HW.out with ⟨h1, h2⟩ | ⟨h1, h2⟩
    ·rw [h2] at CA
     simp only [Mf.st, Mf.er] at CA
     have hgt : ¬ (1000 : Int) < (SP.length : Int) := by omega
     go_wp2_with fail
     with_reducible refine CA.mono ?_
     rintro e w5 ⟨u5, rfl, hu5, g5⟩
     obtain ⟨a5, c5, rfl⟩ := hu5.ps.len_le
     simp only at hu5 ⊢
     obtain ⟨w6, hw6⟩ : ∃ w6, w6 = w5.alloc (.cells #[.slice a5 SP.length c5, .int .i64 SF, .int .i64 SN] 26) := ⟨_, rfl⟩
     have g6 : Below w5.heap.size w5 w6 := by rw [hw6]; exact (Below.refl _ _).alloc (Nat.le_refl _) _
     have hP6 := (HP4.out.kept g5).kept g6
     have CE := Mf.rsame_c (.slice au SP.length cu) (.slice a5 SP.length c5) ⟨SP, SF, SN⟩ w6 hP6.own.ps (hu5.ps.kept g6) (by show SP.length ≤ _; omega)
     unfold Mf.sv at CE
     simp only at CE
     obtain ⟨c0, c1, c2⟩ := (Mf.three hP6.box).1
     have HB6 := Lib.hid hP6.below
     rw [hw6] at c0 c1 c2
     clear CA hu5 g5 g6 hP6 h1 h2
     go_wp2_with fail
     rw [← hw6]
     clear hw6 c0 c1 c2
     with_reducible refine CE.mono ?_
     rintro e w7 ⟨rfl, g7⟩
     have HB7 := Lib.hid (HB6.out.trans (g7.mono HB6.out.size))
     clear CE g7
     go_wp2
     go_ret
     exact ⟨rfl, HB7.out⟩
    ·rw [h2] at CA
     simp only [Mf.st, Mf.er] at CA
     have hgt : (1000 : Int) < (SP.length : Int) := by omega
     go_wp2_with fail
     with_reducible refine CA.mono ?_
     rintro e w5 ⟨u5, rfl, hu5, g5⟩
     obtain ⟨a5, c5, rfl⟩ := hu5.ps.len_le
     simp only [List.length_nil] at hu5 ⊢
     obtain ⟨w6, hw6⟩ : ∃ w6, w6 = w5.alloc (.cells #[.slice a5 0 c5, .int .i64 0, .int .i64 0] 26) := ⟨_, rfl⟩
     have g6 : Below w5.heap.size w5 w6 := by rw [hw6]; exact (Below.refl _ _).alloc (Nat.le_refl _) _
     have hP6 := (HP4.out.kept g5).kept g6
     obtain ⟨c0, c1, c2⟩ := (Mf.three hP6.box).1
     have HB6 := Lib.hid hP6.below
     rw [hw6] at c0 c1 c2 HB6
     clear CA hu5 g5 g6 hP6 h1 h2 hw6
     go_wp2
     go_ret
     exact ⟨rfl, HB6.out⟩
   ·have hki : ¬ (k : Int) < (L.length : Int) := by omega
    have CS := Mf.snapshot_c (.slice au s.parts.length cu) s wr hlp.own.ps (by have := hlp.gd.len; omega)
    obtain ⟨c0, c1, c2⟩ := (Mf.three hlp.box).1
    have hways : (s.parts.length ≤ 1000 ∧ Mf.ap ⟨[], 0, 0⟩ (Mf.snap s) = some s) ∨ (1000 < s.parts.length ∧ Mf.ap ⟨[], 0, 0⟩ (Mf.snap s) = none) := by
     by_cases h : s.parts.length ≤ 1000
     ·exact .inl ⟨h, Mf.snap_ap hlp.gd.ok h hlp.gd.fl hlp.gd.nx⟩
     ·exact .inr ⟨by omega, Mf.snap_not (by omega)⟩
    have HW := Lib.hid hways
    clear hways hk hk50 hk0 hgo
    obtain ⟨SP, SF, SN⟩ := s
    unfold Mf.sv Mf.snap at *
    simp only at CS c0 c1 c2 HW hlp HP ⊢
    clear hlp
    go_wp2_with fail
    with_reducible refine CS.mono ?_
    rintro e w3 ⟨v3, rfl, hv3, g3⟩
    obtain ⟨a3, c3, rfl⟩ := hv3.len_le
    obtain ⟨w4, hw4⟩ : ∃ w4, w4 = w3.alloc (.cells #[.slice none 0 0, .slice a3 SP.length c3, .int .i64 SF, .int .i64 SN] 32) := ⟨_, rfl⟩
    have g4 : Below w3.heap.size w3 w4 := by rw [hw4]; exact (Below.refl _ _).alloc (Nat.le_refl _) _
    have hP4 := (HP.out.kept g3).kept g4
    have CA := Mf.apply_c (.slice none 0 0) (.slice none 0 0) (.slice a3 SP.length c3) ⟨[], 0, 0⟩ ⟨[], SP, SF, SN⟩ w4 (Mf.At.nil _) (Mf.At.nil _) (hv3.kept g4) (fun _ h => nomatch h) (Nat.zero_le _)
    unfold Mf.GotS Mf.sv at CA
    simp only at CA
    have HP4 := Lib.hid hP4
    clear CS c0 c1 c2 hv3 g3 g4 hP4
    go_wp2_with fail
    rw [← hw4]
    clear hw4
    rcases HW.out with ⟨h1, h2⟩ | ⟨h1, h2⟩
    ·rw [h2] at CA
     simp only [Mf.st, Mf.er] at CA
     have hgt : ¬ (1000 : Int) < (SP.length : Int) := by omega
     go_wp2_with fail
     with_reducible refine CA.mono ?_
     rintro e w5 ⟨u5, rfl, hu5, g5⟩
     obtain ⟨a5, c5, rfl⟩ := hu5.ps.len_le
     simp only at hu5 ⊢
     obtain ⟨w6, hw6⟩ : ∃ w6, w6 = w5.alloc (.cells #[.slice a5 SP.length c5, .int .i64 SF, .int .i64 SN] 26) := ⟨_, rfl⟩
     have g6 : Below w5.heap.size w5 w6 := by rw [hw6]; exact (Below.refl _ _).alloc (Nat.le_refl _) _
     have hP6 := (HP4.out.kept g5).kept g6
     have CE := Mf.rsame_c (.slice au SP.length cu) (.slice a5 SP.length c5) ⟨SP, SF, SN⟩ w6 hP6.own.ps (hu5.ps.kept g6) (by show SP.length ≤ _; omega)
     unfold Mf.sv at CE
     simp only at CE
     obtain ⟨c0, c1, c2⟩ := (Mf.three hP6.box).1
     have HB6 := Lib.hid hP6.below
     rw [hw6] at c0 c1 c2
     clear CA hu5 g5 g6 hP6 h1 h2
     go_wp2_with fail
     rw [← hw6]
     clear hw6 c0 c1 c2
     with_reducible refine CE.mono ?_
     rintro e w7 ⟨rfl, g7⟩
     have HB7 := Lib.hid (HB6.out.trans (g7.mono HB6.out.size))
     clear CE g7
     go_wp2
     go_ret
     exact ⟨rfl, HB7.out⟩
    ·rw [h2] at CA
     simp only [Mf.st, Mf.er] at CA
     have hgt : (1000 : Int) < (SP.length : Int) := by omega
     go_wp2_with fail
     with_reducible refine CA.mono ?_
     rintro e w5 ⟨u5, rfl, hu5, g5⟩
     obtain ⟨a5, c5, rfl⟩ := hu5.ps.len_le
     simp only [List.length_nil] at hu5 ⊢
     obtain ⟨w6, hw6⟩ : ∃ w6, w6 = w5.alloc (.cells #[.slice a5 0 c5, .int .i64 0, .int .i64 0] 26) := ⟨_, rfl⟩
     have g6 : Below w5.heap.size w5 w6 := by rw [hw6]; exact (Below.refl _ _).alloc (Nat.le_refl _) _
     have hP6 := (HP4.out.kept g5).kept g6
     obtain ⟨c0, c1, c2⟩ := (Mf.three hP6.box).1
     have HB6 := Lib.hid hP6.below
     rw [hw6] at c0 c1 c2 HB6
     clear CA hu5 g5 g6 hP6 h1 h2 hw6
     go_wp2
     go_ret
     exact ⟨rfl, HB6.out⟩
end
section
open Go.RowKit Go.ChangeShapes Go.WideShapes Go.ChangeAt Go.Deep
section
variable {H : Type} {enc : TypeId × Value → H} {W : World}
theorem Mf.bulk_pos (d : DataW H) : 1 ≤ Rows.uptoBulk d := by
 unfold Rows.uptoBulk
 split <;> omega
theorem Mf.bulk_all : ∀ ds : List (DataW H), ds.length ≤ Rows.uptoBulkAll ds
 | [] => by simp [Rows.uptoBulkAll]
 | d :: ds => by
   have h1 := Mf.bulk_pos d
   have h2 := Mf.bulk_all ds
   simp only [Rows.uptoBulkAll, List.length_cons]
   omega
theorem Mf.heap_of_cell {w : World} {b o : Nat} {v : Value} (h : w.cell? ⟨b, o, none⟩ = some v) : ∃ (cs : Array Value) (fr : TypeId × (Nat × Nat)), w.heap[b]? = some (.cells cs fr.1 fr.2) := by
 unfold World.cell? at h
 cases hb : w.heap[b]? with
 | none => simp [hb] at h
 | some x =>
   cases x with
   | cells cs t f => exact ⟨cs, (t, f), rfl⟩
   | _ => simp [hb] at h
set_option maxRecDepth 100000 in
theorem Mf.open_sl {α : Type} {T e : TypeId} {k : Nat} {en : α → List Value} {Q : α → Prop} (hT : Try.prog.underlying T = some (.slice e)) (hC : Try.prog.cellsOf e = k) (hk : 0 < k) (hlen : ∀ x, (en x).length = k) (d0 : α)
 (hop : ∀ {fuel : Nat} {cs : List Value} {z : DataW H × List MemPlace}, DataW.trod enc Try.prog W 0 (fun _ => true) true fuel e cs = some z → ∃ x, cs = en x ∧ Q x)
 {fuel : Nat} {c1 : Value} {z : DataW H × List MemPlace} (h : DataW.trod enc Try.prog W 0 (fun _ => true) true fuel T [c1] = some z) :
 ∃ L : List α, Mf.At k en W c1 L ∧ (∀ x ∈ L, Q x) ∧ L.length + 1 ≤ Rows.uptoBulk z.1 := by
 rcases open_slice hT h with ⟨hcs, hx⟩ | ⟨a, len, cap, m, n, D, Pl, hcs, _, hl, hm, hmm, hx, hi⟩
 ·obtain rfl : c1 = .slice none 0 0 := by simpa using hcs
  exact ⟨[], Mf.At.nil _, (fun x hx => nomatch hx), Mf.bulk_pos _⟩
 ·obtain rfl : c1 = .slice (some a) len cap := by simpa using hcs
  simp only [if_true] at hmm
  have hz1 : z.1 = .slice ((List.range len).map D) ((List.range (m - len)).map fun j => D (len + j)) := by rw [hx]
  have hbk : len + 1 ≤ Rows.uptoBulk z.1 := by
   rw [hz1]
   have := Mf.bulk_all ((List.range len).map D)
   simp only [List.length_map, List.length_range] at this
   simp only [Rows.uptoBulk]
   omega
  by_cases hz : len = 0
  ·subst hz
   exact ⟨[], ⟨some a, cap, rfl, Nat.zero_le _, .inl ⟨rfl, fun e => nomatch e⟩⟩, (fun x hx => nomatch hx), hbk⟩
  ·rw [hC] at hi
   have hone : ∀ i, i < len → ∃ x, (∀ j, j < k → W.cell? (a.add (i * k + j)) = (en x)[j]?) ∧ Q x := fun i hil => by
    obtain ⟨cs', hc, ht⟩ := hi i (by omega)
    obtain ⟨x, rfl, hq⟩ := hop ht
    obtain ⟨hcl, _, hat⟩ := World.cells?_some hc
    refine ⟨x, fun j hj => ?_, hq⟩
    have aj := hat j hj
    rw [add_add] at aj
    exact aj
   have hsome : ∃ v, W.cell? (a.add 0) = some v := by
    obtain ⟨x, h0, _⟩ := hone 0 (by omega)
    have := h0 0 hk
    rw [List.getElem?_eq_getElem (by rw [hlen]; exact hk)] at this
    rw [Nat.zero_mul, Nat.zero_add] at this
    exact ⟨_, this⟩
   obtain ⟨v0, hv0⟩ := hsome
   obtain ⟨b, off, spot⟩ := a
   have hspot : spot = none := by simpa [Addr.add] using World.cell?_spot hv0
   subst hspot
   rw [add_plain] at hv0
   obtain ⟨hcs0, hfr, hheap⟩ := Mf.heap_of_cell hv0
   have hch : ∃ f : Nat → α, ∀ i, i < len → (∀ j, j < k → W.cell? ⟨b, off + i * k + j, none⟩ = (en (f i))[j]?) ∧ Q (f i) := by
    have hone' : ∀ i, i < len → ∃ x, (∀ j, j < k → W.cell? ⟨b, off + i * k + j, none⟩ = (en x)[j]?) ∧ Q x := fun i hil => by
     obtain ⟨x, h1, h2⟩ := hone i hil
     refine ⟨x, fun j hj => ?_, h2⟩
     have := h1 j hj
     rw [add_plain, ← Nat.add_assoc] at this
     exact this
    refine ⟨fun i => if hil : i < len then (hone' i hil).choose else d0, fun i hil => ?_⟩
    have hs := (hone' i hil).choose_spec
    simp only [dif_pos hil]
    exact hs
   obtain ⟨f, hf'⟩ := hch
   have hlen2 : ((List.range len).map f).length = len := by simp
   refine ⟨(List.range len).map f, ⟨some ⟨b, off, none⟩, cap, by rw [hlen2], by rw [hlen2]; exact hl, .inr ⟨b, off, hcs0, hfr, rfl, trivial, hheap, fun i j x hix hj => ?_⟩⟩, fun x hx => ?_, by rw [hlen2]; exact hbk⟩
   ·rw [List.getElem?_map, Option.map_eq_some_iff] at hix
    obtain ⟨i', hi', rfl⟩ := hix
    obtain ⟨hil, rfl⟩ := List.getElem?_eq_some_iff.1 hi'
    rw [List.getElem_range]
    rw [List.length_range] at hil
    exact (hf' i hil).1 j hj
   ·obtain ⟨i, hi, rfl⟩ := List.mem_map.1 hx
    exact (hf' i (List.mem_range.1 hi)).2
theorem Mf.open_int {fuel : Nat} {cs : List Value} {z : DataW H × List MemPlace} (h : DataW.trod enc Try.prog W 0 (fun _ => true) true fuel 3 cs = some z) : ∃ x : Int, cs = Mf.ic x ∧ Ty.I64 x := by
 obtain ⟨n, e1, r1, w1⟩ := DataW.trod_int Try.underlying3 h
 exact ⟨n, e1, bounds_i64 w1⟩
set_option maxRecDepth 100000 in
theorem Mf.open_value {fuel : Nat} {cs : List Value} {z : DataW H × List MemPlace} (h : DataW.trod enc Try.prog W 0 (fun _ => true) true fuel 37 cs = some z) :
 ∃ x : Kn.V, cs = [.bool x.null, .int .i64 x.n, .string x.s] ∧ Ty.I64 x.n := by
 obtain ⟨xs, f', _, hx, hcl, hxl, hg⟩ := DataW.trod_struct Try.underlying37 h
 have hC : Try.prog.cellsOf 37 = 3 := by kernel_rfl
 have i3 : Try.prog.cellsOf 4 = 1 := by kernel_rfl
 have i2 : Try.prog.cellsOf 2 = 1 := by kernel_rfl
 have i9 : Try.prog.cellsOf 9 = 1 := by kernel_rfl
 rw [hC] at hcl
 match cs, hcl, xs, hxl with
 | [c0, c1, c2], _, [y0, y1, y2], _ =>
   have g0 : DataW.trod enc Try.prog W 0 (fun _ => true) true f' 4 ((List.drop 0 [c0, c1, c2]).take (Try.prog.cellsOf 4)) = some y0 := hg 0 _ rfl
   have g1 : DataW.trod enc Try.prog W 0 (fun _ => true) true f' 2 ((List.drop 1 [c0, c1, c2]).take (Try.prog.cellsOf 2)) = some y1 := hg 1 _ rfl
   have g2 : DataW.trod enc Try.prog W 0 (fun _ => true) true f' 9 ((List.drop 2 [c0, c1, c2]).take (Try.prog.cellsOf 9)) = some y2 := hg 2 _ rfl
   rw [i3] at g0
   rw [i2] at g1
   rw [i9] at g2
   obtain ⟨k, e0, r0⟩ := DataW.trod_bool Try.underlying4 (show DataW.trod enc Try.prog W 0 (fun _ => true) true f' 4 [c0] = some y0 from g0)
   obtain ⟨n, e1, r1, w1⟩ := DataW.trod_int Try.underlying2 (show DataW.trod enc Try.prog W 0 (fun _ => true) true f' 2 [c1] = some y1 from g1)
   obtain ⟨s, e2, r2, _⟩ := DataW.trod_string Try.underlying9 (show DataW.trod enc Try.prog W 0 (fun _ => true) true f' 9 [c2] = some y2 from g2)
   simp only [List.cons.injEq, and_true] at e0 e1 e2
   subst e0 e1 e2
   exact ⟨⟨k, n, s⟩, rfl, bounds_i64 w1⟩
set_option maxRecDepth 100000 in
theorem Mf.open_part {fuel : Nat} {cs : List Value} {z : DataW H × List MemPlace} (h : DataW.trod enc Try.prog W 0 (fun _ => true) true fuel 39 cs = some z) :
 ∃ p : Mf.P, cs = Mf.pc p ∧ ((Ty.I64 p.lo.n ∧ Ty.I64 p.hi.n) ∧ Ty.I64 p.id) := by
 obtain ⟨xs, f', _, hx, hcl, hxl, hg⟩ := DataW.trod_struct Try.underlying39 h
 have hC : Try.prog.cellsOf 39 = 8 := by kernel_rfl
 have i2 : Try.prog.cellsOf 3 = 1 := by kernel_rfl
 have i9 : Try.prog.cellsOf 37 = 3 := by kernel_rfl
 rw [hC] at hcl
 match cs, hcl, xs, hxl with
 | [c0, c1, c2, c3, c4, c5, c6, c7], _, [y0, y1, y2, y3], _ =>
   have g0 : DataW.trod enc Try.prog W 0 (fun _ => true) true f' 3 ((List.drop 0 [c0, c1, c2, c3, c4, c5, c6, c7]).take (Try.prog.cellsOf 3)) = some y0 := hg 0 _ rfl
   have g1 : DataW.trod enc Try.prog W 0 (fun _ => true) true f' 3 ((List.drop 1 [c0, c1, c2, c3, c4, c5, c6, c7]).take (Try.prog.cellsOf 3)) = some y1 := hg 1 _ rfl
   have g2 : DataW.trod enc Try.prog W 0 (fun _ => true) true f' 37 ((List.drop 2 [c0, c1, c2, c3, c4, c5, c6, c7]).take (Try.prog.cellsOf 37)) = some y2 := hg 2 _ rfl
   have g3 : DataW.trod enc Try.prog W 0 (fun _ => true) true f' 37 ((List.drop 5 [c0, c1, c2, c3, c4, c5, c6, c7]).take (Try.prog.cellsOf 37)) = some y3 := hg 3 _ rfl
   rw [i2] at g0 g1
   rw [i9] at g2 g3
   obtain ⟨x0, e0, w0⟩ := Mf.open_int (show DataW.trod enc Try.prog W 0 (fun _ => true) true f' 3 [c0] = some y0 from g0)
   obtain ⟨x1, e1, w1⟩ := Mf.open_int (show DataW.trod enc Try.prog W 0 (fun _ => true) true f' 3 [c1] = some y1 from g1)
   obtain ⟨x2, e2, w2⟩ := Mf.open_value (show DataW.trod enc Try.prog W 0 (fun _ => true) true f' 37 [c2, c3, c4] = some y2 from g2)
   obtain ⟨x3, e3, w3⟩ := Mf.open_value (show DataW.trod enc Try.prog W 0 (fun _ => true) true f' 37 [c5, c6, c7] = some y3 from g3)
   unfold Mf.ic at e0 e1
   simp only [List.cons.injEq, and_true] at e0 e1 e2 e3
   obtain ⟨rfl, rfl, rfl⟩ := e2
   obtain ⟨rfl, rfl, rfl⟩ := e3
   subst e0 e1
   exact ⟨⟨x0, x1, x2, x3⟩, rfl, ⟨w2, w3⟩, w0⟩
def Mf.ok9 (p : Mf.P) : Prop := (Ty.I64 p.lo.n ∧ Ty.I64 p.hi.n) ∧ Ty.I64 p.id
theorem Mf.open_parts {fuel : Nat} {c1 : Value} {z : DataW H × List MemPlace} (h : DataW.trod enc Try.prog W 0 (fun _ => true) true fuel 24 [c1] = some z) :
 ∃ L : List Mf.P, Mf.Ps W c1 L ∧ (∀ p ∈ L, Mf.ok9 p) ∧ L.length + 1 ≤ Rows.uptoBulk z.1 :=
 Mf.open_sl (Q := Mf.ok9) Try.underlying24 (by kernel_rfl) (by decide) Mf.pc_len ⟨0, 0, ⟨false, 0, ⟨#[]⟩⟩, ⟨false, 0, ⟨#[]⟩⟩⟩ (fun h => Mf.open_part h) h
theorem Mf.open_ints {fuel : Nat} {c1 : Value} {z : DataW H × List MemPlace} (h : DataW.trod enc Try.prog W 0 (fun _ => true) true fuel 30 [c1] = some z) :
 ∃ L : List Int, Mf.Is W c1 L := by
 obtain ⟨L, h1, _⟩ := Mf.open_sl (Q := Ty.I64) Try.underlying30 (by kernel_rfl) (by decide) Mf.ic_len (0 : Int) (fun h => Mf.open_int h) h
 exact ⟨L, h1⟩
set_option maxRecDepth 100000 in
theorem Mf.open_edit_cells {fuel : Nat} {cs : List Value} {z : DataW H × List MemPlace} (h : DataW.trod enc Try.prog W 0 (fun _ => true) true fuel 32 cs = some z) :
 ∃ (e : Mf.E) (vd va : Value), cs = [vd, va, .int .i64 e.floor, .int .i64 e.next] ∧ Mf.Is W vd e.drop ∧ Mf.Ps W va e.add ∧ ∀ p ∈ e.add, Mf.ok9 p := by
 obtain ⟨xs, f', _, hx, hcl, hxl, hg⟩ := DataW.trod_struct Try.underlying32 h
 have hC : Try.prog.cellsOf 32 = 4 := by kernel_rfl
 have i2 : Try.prog.cellsOf 3 = 1 := by kernel_rfl
 have i0 : Try.prog.cellsOf 30 = 1 := by kernel_rfl
 have i1 : Try.prog.cellsOf 24 = 1 := by kernel_rfl
 rw [hC] at hcl
 match cs, hcl, xs, hxl with
 | [c0, c1, c2, c3], _, [y0, y1, y2, y3], _ =>
   have g0 : DataW.trod enc Try.prog W 0 (fun _ => true) true f' 30 ((List.drop 0 [c0, c1, c2, c3]).take (Try.prog.cellsOf 30)) = some y0 := hg 0 _ rfl
   have g1 : DataW.trod enc Try.prog W 0 (fun _ => true) true f' 24 ((List.drop 1 [c0, c1, c2, c3]).take (Try.prog.cellsOf 24)) = some y1 := hg 1 _ rfl
   have g2 : DataW.trod enc Try.prog W 0 (fun _ => true) true f' 3 ((List.drop 2 [c0, c1, c2, c3]).take (Try.prog.cellsOf 3)) = some y2 := hg 2 _ rfl
   have g3 : DataW.trod enc Try.prog W 0 (fun _ => true) true f' 3 ((List.drop 3 [c0, c1, c2, c3]).take (Try.prog.cellsOf 3)) = some y3 := hg 3 _ rfl
   rw [i0] at g0
   rw [i1] at g1
   rw [i2] at g2 g3
   obtain ⟨D, hD⟩ := Mf.open_ints (show DataW.trod enc Try.prog W 0 (fun _ => true) true f' 30 [c0] = some y0 from g0)
   obtain ⟨A, hA, hA9, _⟩ := Mf.open_parts (show DataW.trod enc Try.prog W 0 (fun _ => true) true f' 24 [c1] = some y1 from g1)
   obtain ⟨x2, e2, _⟩ := Mf.open_int (show DataW.trod enc Try.prog W 0 (fun _ => true) true f' 3 [c2] = some y2 from g2)
   obtain ⟨x3, e3, _⟩ := Mf.open_int (show DataW.trod enc Try.prog W 0 (fun _ => true) true f' 3 [c3] = some y3 from g3)
   unfold Mf.ic at e2 e3
   simp only [List.cons.injEq, and_true] at e2 e3
   subst e2 e3
   exact ⟨⟨D, A, x2, x3⟩, c0, c1, rfl, hD, hA, hA9⟩
end
end
end Go.Proofs.Ythfgcilaikjhpaa
