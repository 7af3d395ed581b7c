/-
  
-/
import Derived.Test.YtbelkhkllneifaaGreatDoorWCBD
import Derived.Test.YtbelkhkllneifaaGreatDoorWCBE
import Derived.Deep.RegionHeld3
namespace Go.Proofs.YtbelkhkllneifaaGreatDoor
open Go Go.RowKit Go.Shelf
attribute [local go_sem] Oper.semAt_some
theorem Rn.loaded_n (vs v : Value) (s : List Kn.C) (L : List Dd.D) (w : World) (hT : Ty.Tabs w) (hs : Dd.Cols w vs s) (hv : Bk.Ds w v L) (hz : Bk.Zs L) (hi : ∀ d ∈ L, ∀ x ∈ d.row, Ty.I64 x.n) (h2 : L.length ≤ 200) (h0 : Rn.wE s L ≠ 0) :
 Calls Tryz.prog 13 #[vs, v] w fun e w' => e = .returned (.pointer none) ∧ Below w.heap.size w w' := by
 refine (Rn.loaded_c vs v s L w hT hs hv hz hi h2).mono ?_
 rintro e w' ⟨⟨_, rfl⟩ | ⟨p, h, _⟩, g⟩
 ·exact ⟨rfl, g⟩
 ·exact absurd h h0
theorem Rn.loaded_p (vs v : Value) (s : List Kn.C) (L : List Dd.D) (w : World) (hT : Ty.Tabs w) (hs : Dd.Cols w vs s) (hv : Bk.Ds w v L) (hz : Bk.Zs L) (hi : ∀ d ∈ L, ∀ x ∈ d.row, Ty.I64 x.n) (h2 : L.length ≤ 200) (h0 : Rn.wE s L = 0) :
 Calls Tryz.prog 13 #[vs, v] w fun e w' => ∃ p, e = .returned (.pointer (some ⟨p, 0, none⟩)) ∧ Rn.P w' p s L ∧ Below w.heap.size w w' := by
 refine (Rn.loaded_c vs v s L w hT hs hv hz hi h2).mono ?_
 rintro e w' ⟨⟨h, _⟩ | ⟨p, _, rfl, hp⟩, g⟩
 ·exact absurd h0 h
 ·exact ⟨p, rfl, hp, g⟩
set_option maxHeartbeats 16000000 in
set_option maxRecDepth 100000 in
theorem Rn.lawSplits_w (vs v : Value) (s : List Kn.C) (L : List Dd.D) (k : Kn.V) (w : World) (hT : Ty.Tabs w) (hs : Dd.Cols w vs s) (hv : Bk.Ds w v L) (hz : Bk.Zs L) (hi : ∀ d ∈ L, ∀ x ∈ d.row, Ty.I64 x.n) :
 Calls Tryz.prog 8 #[vs, v, k.val] w fun e w' => e = .returned (.bool true) ∧ Below w.heap.size w w' := by
 have HT := Lib.hid hT
 have HS := Lib.hid hs
 have HV := Lib.hid hv
 have HZ := Lib.hid (Rn.zs_take hz 200)
 have HI := Lib.hid (Rn.i64_take hi 200)
 have HK2 : Hid ((L.take 200).length ≤ 200) := Lib.hid Rn.take_le
 obtain ⟨a, c, rfl, -⟩ := hv
 obtain ⟨⟨sa, sc, rfl, -⟩, -⟩ := hs
 obtain ⟨kn, ki, ks⟩ := k
 obtain ⟨w1, hw1⟩ : ∃ w1, w1 = w.alloc (.cells #[.bool kn, .int .i64 ki, .string ks] 33) := ⟨_, rfl⟩
 obtain ⟨kb, hkb⟩ : ∃ kb, kb = w.heap.size := ⟨_, rfl⟩
 have HB1 : Hid (Below w.heap.size w w1 ∧ Kn.At w1 kb 0 ⟨kn, ki, ks⟩ ∧ kb < w1.heap.size ∧ w.heap.size ≤ kb) := Lib.hid (by
  rw [hw1, hkb]
  exact ⟨(Below.refl _ w).alloc (Nat.le_refl _) _, Kn.At.new w ⟨kn, ki, ks⟩ 33, by simp, Nat.le_refl _⟩)
 have HLV := Lib.hid fun (wz : World) (g : Below w.heap.size w wz) => Rn.lives_c wz (Rn.tb2 HT.out g)
 have HEA := Lib.hid fun (wz : World) (g : Below w.heap.size w wz) => Rn.early_c (HV.out.later g)
 have HGR : Hid (∀ {x y : World}, Below w.heap.size w x → Below x.heap.size x y → Below w.heap.size w y) := Lib.hid Rn.grow
 simp only [Kn.V.val]
 by_cases h0 : Rn.wE s (L.take 200) = 0
 ·have HLD := Lib.hid fun (v : Value) (wz : World) (g : Below w.heap.size w wz) (hd : Bk.Ds wz v (L.take 200)) => Rn.loaded_p _ v s (L.take 200) wz (Rn.tb2 HT.out g) (HS.out.later g) hd HZ.out HI.out HK2.out h0
  have HG : Hid (Rn.Gd s (L.take 200)) := Lib.hid ⟨h0, HK2.out⟩
  unfold Rn.EarlyD at HEA
  generalize L.take 200 = K at HEA HLD HG HZ HI HK2
  clear hT hz hi h0
  rw [← callsIn_wide (n := 9)]
  refine callsIn_of_wp_marks Tryz.func8 rfl trivial ?_ rfl
  simp only [Tryz.ntmps8, List.size_toArray, List.length_cons, List.length_nil, Nat.reduceAdd, Nat.reduceSub, Array.replicate_succ, Array.replicate_zero, List.push_toArray, List.append_toArray, List.nil_append, List.cons_append]
  gi_upto_region 1 with (fail)
  rw [← hw1, ← hkb]
  clear hw1 hkb
  gi_upto_region 6 with (first
   | (refine ⟨trivial, ?_⟩; gi_at_call 9; refine (callsIn_wide.2 (HLV.out _ HB1.out.1)).mono ?_; rintro e w2 ⟨rfl, g2⟩
      have HG2 := Lib.hid (HGR.out HB1.out.1 g2)
      have HX2 := Lib.hid g2
      clear g2)
   | (refine ⟨trivial, ?_⟩; gi_at_call 10; refine (callsIn_wide.2 (HEA.out _ HG2.out)).mono ?_; rintro e w3 ⟨a2, n2, c2, rfl, hd3, g3⟩
      have HG3 := Lib.hid (HGR.out HG2.out g3)
      have HX3 := Lib.hid (Rn.grow HX2.out g3)
      have HD3 := Lib.hid hd3
      clear g3 hd3)
   | (refine ⟨trivial, ?_⟩; gi_at_call 13; refine (callsIn_wide.2 (HLD.out _ _ HG3.out HD3.out)).mono ?_; rintro e w4 ⟨p, rfl, hp, g4⟩
      have HG4 := Lib.hid (HGR.out HG3.out g4)
      have HX4 := Lib.hid (Rn.grow HX3.out g4)
      have HP := Lib.hid hp
      clear g4 hp))
  obtain ⟨w5, hw5⟩ : ∃ w5, w5 = w4.alloc (.cells #[.slice none 0 0] 23) := ⟨_, rfl⟩
  obtain ⟨q, hq⟩ : ∃ q, q = w4.heap.size := ⟨_, rfl⟩
  have HB5 : Hid (Below w4.heap.size w4 w5 ∧ w5.heap.size = q + 1 ∧ w5.heap[q]? = some (.cells #[.slice none 0 0] 23 (0, 0))) := Lib.hid (by
   rw [hw5, hq]
   exact ⟨(Below.refl _ w4).alloc (Nat.le_refl _) _, by simp, heap_alloc_new w4 _⟩)
  have HQ := Lib.hid hq
  have HKA : Hid (∀ W, Below w4.heap.size w4 W → W.cell? ⟨kb, 0, none⟩ = some (.bool kn) ∧ W.cell? ⟨kb, 1, none⟩ = some (.int .i64 ki) ∧ W.cell? ⟨kb, 2, none⟩ = some (.string ks)) := Lib.hid fun W g => by
   obtain ⟨k0, k1, k2⟩ := HB1.out.2.1.later (Rn.grow HX4.out g)
   simp only [Nat.zero_add] at k0 k1 k2
   exact ⟨k0, k1, k2⟩
  have CR := Lib.hid (Rn.range_c HP.out HB5.out.1 HG.out ⟨false, true, Cl.ofN 0, ⟨kn, ki, ks⟩⟩)
  unfold Rn.RangeD Cl.ofN Kn.R.val at CR
  simp only at CR
  have hka := HKA.out w5 HB5.out.1
  obtain ⟨k0, k1, k2⟩ := hka
  gi_upto_region 7 with (fail)
  rw [← hw5, ← hq]
  clear hw5 hq
  gi_wp2_with (refine ⟨trivial, ?_⟩; gi_at_call 21; refine (callsIn_wide.2 CR.out).mono ?_; rintro e w6 ⟨m, a6, n6, c6, rfl, hm, hbm, hd, g6⟩)
  rw [show (⟨false, true, ⟨false, 0, ⟨#[]⟩⟩, ⟨kn, ki, ks⟩⟩ : Kn.R) = ⟨false, true, Cl.ofN 0, ⟨kn, ki, ks⟩⟩ from rfl] at hd
  have HB6 : Hid (Below w4.heap.size w4 w6) := Lib.hid (HB5.out.1.trans (g6.mono HB5.out.1.size))
  have HBM := Lib.hid hbm
  have HMX : Hid (q + 1 ≤ m ∧ m < w6.heap.size) := Lib.hid ⟨by have := HB5.out.2.1; omega, (Array.getElem?_eq_some_iff.1 hbm).1⟩
  have HQS : Hid (q ≤ w6.heap.size) := Lib.hid (by have := HMX.out; omega)
  have HM1 : Hid (q ≤ w6.heap.size ∧ m < w6.heap.size ∧ m < w6.heap.size ∧ q ≠ m ∧ q ≠ m ∧ w6.heap.size ≤ w6.heap.size) := Lib.hid (by have := HMX.out; omega)
  have HNT1 : Hid (∀ W, Rn.Kd (Rn.Dq q m m) w6 W → (∀ cs, W.heap[m]? ≠ some (.cells cs 41 (0, 0))) ∧ ∀ cs, W.heap[m]? ≠ some (.cells cs 41 (0, 0))) := Lib.hid fun W hk => by
   have : ∀ cs, W.heap[m]? ≠ some (.cells cs 41 (0, 0)) := fun cs h => by
    rw [(hk.same m (.inr (.inl rfl)) HMX.out.2).trans HBM.out] at h
    simp only [Option.some.injEq, Obj.cells.injEq] at h
    exact absurd h.2.1 (by decide)
   exact ⟨this, this⟩
  have H0 : w6.heap[q]? = some (.cells #[.slice none 0 0] 23 (0, 0)) := (g6.block q (by have := HB5.out.2.1; omega)).trans HB5.out.2.2
  have HFT : Hid (∀ r : Kn.R, (∀ d ∈ Rn.in_ K r, (∀ v ∈ d.row, Kn.Z v) ∧ d.row.length ≤ 6 ∧ d.row ≠ []) ∧ (Rn.in_ K r).length ≤ 200) := Lib.hid fun r => by
   refine ⟨fun d hd => ?_, ?_⟩
   ·exact Rn.fit_s HG.out.rt (HG.out.ft d (List.mem_filter.1 hd).1)
   ·exact Nat.le_trans (List.length_filter_le ..) HG.out.few
  have HSEQ1 := Lib.hid (Rn.range1_seq (D := Rn.Dq q m m) hbm hd HB6.out (fun b hb => .inl (by have := HQ.out; omega)) (HFT.out ⟨false, true, Cl.ofN 0, ⟨kn, ki, ks⟩⟩).1 (by have := (HFT.out ⟨false, true, Cl.ofN 0, ⟨kn, ki, ks⟩⟩).2; omega))
  have HI01 : Hid (Rn.Ga q m m w6 q w6.heap.size w6.heap.size ([] ++ []) w6) := Lib.hid ⟨Rn.Kd.below (Below.refl _ _), .slice none 0 0, [], H0, Dk.Own.nil _ _, rfl, fun i x hx => by cases hx⟩
  have HDL1 : Hid (∀ b, Rn.Dq q m m b → b < w6.heap.size) := Lib.hid fun b hb => by have := HMX.out; rcases hb with hb | hb | hb <;> omega
  have HLN : Hid (([] : List Dd.D).length ≤ 200 ∧ (Rn.in_ K ⟨false, true, Cl.ofN 0, ⟨kn, ki, ks⟩⟩).length ≤ 200) := Lib.hid ⟨by simp, (HFT.out ⟨false, true, Cl.ofN 0, ⟨kn, ki, ks⟩⟩).2⟩
  clear hm hbm hd g6 CR H0 k0 k1 k2
  refine Rn.range_w (gf := 49) rfl (enters_of Tryz.func49 (by kernel_rfl) rfl)
   HSEQ1.out (Below.refl _ _) HDL1.out (fun x args W he => by obtain ⟨u, rfl, _⟩ := he; rfl)
   (fun pre W => Rn.Ga q m m w6 q w6.heap.size w6.heap.size ([] ++ pre) W) (fun _ _ _ => False) (Rn.Ga.own [] HM1.out.1 HM1.out.2.1 HM1.out.2.2.1) (fun c s A' B' row h => h.elim) HI01.out
   (fun pre x a' W => ∃ (bx : Nat) (ua : Option Addr) (cu : Nat), a' = { tmps := #[.slice sa s.length sc, .slice a L.length c, .agg #[.bool kn, .int .i64 ki, .string ks], undef, undef, .pointer (some ⟨kb, 0, none⟩), .bool false, .pointer (some ⟨p, 0, none⟩), .pointer (some ⟨q, 0, none⟩), .pointer (some ⟨bx, 0, none⟩), undef, .bool true, .bool false, .slice sa s.length sc, .slice a L.length c, .slice a2 n2 c2, .pointer (some ⟨p, 0, none⟩), .pointer (some ⟨p, 0, none⟩), .bool false, .pointer (some ⟨p, 0, none⟩), .agg #[.bool kn, .int .i64 ki, .string ks], .agg #[.bool false, .bool true, .bool false, .int .i64 0, .string ⟨#[]⟩, .bool kn, .int .i64 ki, .string ks], .func (.func 49) #[] #[.pointer (some ⟨m, 0, none⟩)], .agg #[.bool x.gone, .slice ua x.row.length cu], undef, undef, undef, undef, undef, undef, undef, undef, undef, undef, undef, undef, undef, undef, undef, undef, undef], defers := [] } ∧ w6.heap.size ≤ bx ∧ W.heap[bx]? = some (.cells #[.bool x.gone, .slice ua x.row.length cu] 41 (0, 0)) ∧ Sk.Rw w6.heap.size W (.slice ua x.row.length cu) x.row ∧ Rn.Ga q m m w6 q w6.heap.size w6.heap.size ([] ++ pre) W) ?ownA1 ?assign1 ?body1 ?done1 ?stop1
  case ownA1 =>
   rintro pre x a' u A' B' row ⟨bx, ua, cu, h0, hbx, hb, he, h1⟩ hg hr
   exact ⟨bx, ua, cu, h0, hbx, Rn.blk_own hb hg hr, Rn.own_own w6.heap.size _ _ _ () _ _ row he hg hr, Rn.Ga.own [] HM1.out.1 HM1.out.2.1 HM1.out.2.2.1 _ _ _ row h1 hg hr⟩
  case assign1 =>
   rintro l pre x args W hI ⟨u, rfl, hu⟩ hpx hbW
   obtain ⟨ua, cu, rfl⟩ : ∃ ua cu, u = .slice ua x.row.length cu := Rn.own_form hu
   have HI := Lib.hid hI
   have HU := Lib.hid hu
   have HW8 : Hid (w6.heap.size ≤ W.heap.size) := Lib.hid hbW.size
   clear hI hu hpx hbW
   gi_wp2
   have ha : Below W.heap.size W (W.alloc (.cells #[.bool x.gone, .slice ua x.row.length cu] 41)) := (Below.refl _ W).alloc (Nat.le_refl _) _
   exact ⟨ha, W.heap.size, ua, cu, by first | rfl | trivial | exact ⟨rfl, rfl, rfl⟩, HW8.out, heap_alloc_new W _, HU.out.kept ha, Rn.own_below (Rn.Ga.own [] HM1.out.1 HM1.out.2.1 HM1.out.2.2.1) HI.out ha⟩
  case body1 =>
   rintro l pre x a' W hl hlr ⟨bx, ua, cu, rfl, hbx, hbk, hu, hkd, v, M, h2, h3, h4, h5⟩ hpx hkw
   have HX9 : Hid (∀ w9 v9, Dk.Own 41 2 Rn.e2 w6.heap.size w9 v9 (M ++ [(x.gone, (ua, x.row.length, cu))]) → Ty.Grew W w9 v v9 → KeepsFrom w6.heap.size W (w9.setCell ⟨q, 0, none⟩ v9) ∧ Rn.Kd (Rn.Dq q m m) W (w9.setCell ⟨q, 0, none⟩ v9) ∧ Rn.Ga q m m w6 q w6.heap.size w6.heap.size ([] ++ (pre ++ [x])) (w9.setCell ⟨q, 0, none⟩ v9)) := Lib.hid fun w9 v9 ho hg => by
    rw [← List.append_assoc]
    exact Rn.Ga.step (C := w6.heap.size) (l := [] ++ pre) HQS.out (Nat.le_refl _) HM1.out.2.2.2.1 HM1.out.2.2.2.2.1 (HNT1.out W hkd).1 (HNT1.out W hkd).2 hkd h2 h3 h4 h5 ho hg (hu.mono HM1.out.2.2.2.2.2)
   have HOW := Lib.hid h3
   have HBK := Lib.hid h2
   have Hw6 : Hid (w6.heap.size ≤ W.heap.size) := Lib.hid (Nat.le_trans HM1.out.2.2.2.2.2 hkd.size)
   have HML : Hid (M.length < 400) := Lib.hid (by
    obtain ⟨t, ht⟩ := hpx
    have h9 : (pre ++ [x] ++ t).length = (Rn.in_ K ⟨false, true, Cl.ofN 0, ⟨kn, ki, ks⟩⟩).length := by rw [ht]
    have := HLN.out
    simp only [List.length_append, List.length_singleton] at h9 h4
    omega)
   obtain ⟨va, vn, vc, rfl⟩ := Rn.own_form3 h3
   have b0 : W.cell? ⟨q, 0, none⟩ = some (.slice va vn vc) := by rw [cell_of_row _ _ _ _ _ _ h2]; rfl
   have x0 : W.cell? ⟨bx, 0, none⟩ = some (.bool x.gone) := by rw [cell_of_row _ _ _ _ _ _ hbk]; rfl
   have x1 : W.cell? ⟨bx, 1, none⟩ = some (.slice ua x.row.length cu) := by rw [cell_of_row _ _ _ _ _ _ hbk]; rfl
   generalize x.gone = dg at x0 HX9 ⊢
   generalize x.row.length = dn at x1 HX9 ⊢
   clear hl hlr hbx hbk hu hkd h2 h3 h4 h5 hpx hkw
   gi_upto_region 9 with (fail)
   refine Rn.list_region (by kernel_rfl) ?_
   go_wp2_with (at_builtin; refine Dk.wpList_append1 23 _ 32 Tryz.underlying23 Rn.infoD rfl (by decide) Rn.e2_len Rn.e2_one (dg, (ua, dn, cu)) HOW.out Hw6.out (by have := HML.out; omega) (by have := HML.out; omega) _ rfl _ rfl (.tmp 24) (.tmp 26) (by rfl) (by rfl) (by rfl) (by rfl) ?_; intro v9 w9 h6 g6; have hp6 := (Rn.off HOW.out g6 HBK.out (by decide)).trans HBK.out; have d0 := cell_of_row _ _ 0 _ _ _ hp6; have k0 := frozen_of_row _ _ 0 _ _ hp6; simp only [List.getElem?_toArray, List.getElem?_cons_zero] at d0; have HE := Lib.hid (HX9.out w9 v9 h6 g6); obtain ⟨v6a, v6n, v6c, hv6⟩ := Rn.own_form3 h6; clear h6 g6 hp6; subst hv6)
   clear b0 d0 k0 x0 x1
   refine Sk.Calm.normal ?_
   exact HE.out
  case stop1 =>
   rintro N' c pre W hN hpre hne h hK
   exact h.elim
  case done1 =>
   rintro N W hN ⟨hkd, v, M, h2, h3, h4, h5⟩ hK
   obtain ⟨K1, hK1⟩ : ∃ K1, K1 = Rn.in_ K ⟨false, true, Cl.ofN 0, ⟨kn, ki, ks⟩⟩ := ⟨_, rfl⟩
   rw [List.nil_append, ← hK1] at h4 h5
   have HK1 := Lib.hid hK1
   have HBW : Hid (Below w4.heap.size w4 W) := Lib.hid (HB6.out.trans (hkd.low (fun b hb => .inl (by have := HQ.out; omega)) HB6.out.size))
   have HN := Lib.hid (And.intro hN hK)
   have HSW : Hid (w6.heap.size ≤ W.heap.size) := Lib.hid hkd.size
   have HAC := Lib.hid (And.intro h2 (And.intro h3 (And.intro h4 h5)))
   obtain ⟨va, vn, vc, rfl⟩ := Rn.own_form3 h3
   have CR := Lib.hid (Rn.range_c HP.out HBW.out HG.out ⟨true, false, ⟨kn, ki, ks⟩, Cl.ofN 0⟩)
   unfold Rn.RangeD Cl.ofN Kn.R.val at CR
   simp only at CR
   have hka := HKA.out W HBW.out
   obtain ⟨k0, k1, k2⟩ := hka
   clear hkd h2 h3 h4 h5 hN hK hK1 HLN
   gi_wp2_with (refine ⟨trivial, ?_⟩; gi_at_call 21; refine (callsIn_wide.2 CR.out).mono ?_; rintro e w8 ⟨m2, a8, n8, c8, rfl, hm, hbm, hd, g8⟩)
   rw [show (⟨true, false, ⟨kn, ki, ks⟩, ⟨false, 0, ⟨#[]⟩⟩⟩ : Kn.R) = ⟨true, false, ⟨kn, ki, ks⟩, Cl.ofN 0⟩ from rfl] at hd
   have HB8 : Hid (Below w4.heap.size w4 w8) := Lib.hid (HBW.out.trans (g8.mono HBW.out.size))
   have HBM2 := Lib.hid hbm
   have hN8 : N < w8.heap.size := by have := (Array.getElem?_eq_some_iff.1 HN.out.2).1; have := g8.size; omega
   have HMX2 : Hid (q + 1 ≤ m2 ∧ m2 < w8.heap.size ∧ q + 1 ≤ N ∧ N < w8.heap.size) := Lib.hid ⟨by have := HMX.out; have := HSW.out; omega, (Array.getElem?_eq_some_iff.1 hbm).1, by have := HMX.out; have := HN.out.1; omega, hN8⟩
   have HN8 : Hid (w8.heap[N]? = some (.deferred (some []))) := Lib.hid ((g8.block N (Array.getElem?_eq_some_iff.1 HN.out.2).1).trans HN.out.2)
   have HS8 : Hid (w6.heap.size ≤ w8.heap.size) := Lib.hid (Nat.le_trans HSW.out g8.size)
   have HM2 : Hid (q ≤ w8.heap.size ∧ m2 < w8.heap.size ∧ N < w8.heap.size ∧ q ≠ m2 ∧ q ≠ N ∧ w6.heap.size ≤ w8.heap.size) := Lib.hid (by have := HMX2.out; have := HS8.out; omega)
   have HNT2 : Hid (∀ W, Rn.Kd (Rn.Dq q m2 N) w8 W → (∀ cs, W.heap[m2]? ≠ some (.cells cs 41 (0, 0))) ∧ ∀ cs, W.heap[N]? ≠ some (.cells cs 41 (0, 0))) := Lib.hid fun W hk => by
    refine ⟨fun cs h => ?_, fun cs h => ?_⟩
    ·rw [(hk.same m2 (.inr (.inl rfl)) HMX2.out.2.1).trans HBM2.out] at h
     simp only [Option.some.injEq, Obj.cells.injEq] at h
     exact absurd h.2.1 (by decide)
    ·rw [(hk.same N (.inr (.inr rfl)) HMX2.out.2.2.2).trans HN8.out] at h
     cases h
   have HSEQ2 := Lib.hid (Rn.range1_seq (D := Rn.Dq q m2 N) hbm hd HB8.out (fun b hb => .inl (by have := HQ.out; omega)) (HFT.out ⟨true, false, ⟨kn, ki, ks⟩, Cl.ofN 0⟩).1 (by have := (HFT.out ⟨true, false, ⟨kn, ki, ks⟩, Cl.ofN 0⟩).2; omega))
   have HI02 : Hid (Rn.Ga q m2 N w8 q w6.heap.size w6.heap.size (K1 ++ []) w8) := Lib.hid (by
    rw [List.append_nil]
    obtain ⟨h2, h3, h4, h5⟩ := HAC.out
    exact ⟨Rn.Kd.below (Below.refl _ _), _, _, (g8.block q (Array.getElem?_eq_some_iff.1 h2).1).trans h2, h3.kept g8, h4, fun i x hx => by
     obtain ⟨y, e1, e2, e3⟩ := h5 i x hx
     exact ⟨y, e1, e2, e3.kept g8⟩⟩)
   have HDL2 : Hid (∀ b, Rn.Dq q m2 N b → b < w8.heap.size) := Lib.hid fun b hb => by have := HMX2.out; rcases hb with hb | hb | hb <;> omega
   have HLN : Hid (K1.length ≤ 200 ∧ (Rn.in_ K ⟨true, false, ⟨kn, ki, ks⟩, Cl.ofN 0⟩).length ≤ 200) := Lib.hid ⟨by rw [HK1.out]; exact (HFT.out ⟨false, true, Cl.ofN 0, ⟨kn, ki, ks⟩⟩).2, (HFT.out ⟨true, false, ⟨kn, ki, ks⟩, Cl.ofN 0⟩).2⟩
   clear hm hbm hd g8 CR k0 k1 k2 hN8 HAC HSEQ1 HI01 HDL1 HNT1 HM1 HBM
   refine Rn.range_w (gf := 49) rfl (enters_of Tryz.func49 (by kernel_rfl) rfl)
    HSEQ2.out (Below.refl _ _) HDL2.out (fun x args W he => by obtain ⟨u, rfl, _⟩ := he; rfl)
    (fun pre W => Rn.Ga q m2 N w8 q w6.heap.size w6.heap.size (K1 ++ pre) W) (fun _ _ _ => False) (Rn.Ga.own K1 HM2.out.1 HM2.out.2.1 HM2.out.2.2.1) (fun c s A' B' row h => h.elim) HI02.out
    (fun pre x a' W => ∃ (bx : Nat) (ua : Option Addr) (cu : Nat), a' = { tmps := #[.slice sa s.length sc, .slice a L.length c, .agg #[.bool kn, .int .i64 ki, .string ks], undef, undef, .pointer (some ⟨kb, 0, none⟩), .bool false, .pointer (some ⟨p, 0, none⟩), .pointer (some ⟨q, 0, none⟩), undef, .pointer (some ⟨bx, 0, none⟩), .bool true, .bool false, .slice sa s.length sc, .slice a L.length c, .slice a2 n2 c2, .pointer (some ⟨p, 0, none⟩), .pointer (some ⟨p, 0, none⟩), .bool false, .pointer (some ⟨p, 0, none⟩), .agg #[.bool kn, .int .i64 ki, .string ks], .agg #[.bool false, .bool true, .bool false, .int .i64 0, .string ⟨#[]⟩, .bool kn, .int .i64 ki, .string ks], .func (.func 49) #[] #[.pointer (some ⟨m, 0, none⟩)], undef, undef, undef, undef, undef, .pointer (some ⟨p, 0, none⟩), .agg #[.bool kn, .int .i64 ki, .string ks], .agg #[.bool true, .bool false, .bool kn, .int .i64 ki, .string ks, .bool false, .int .i64 0, .string ⟨#[]⟩], .func (.func 49) #[] #[.pointer (some ⟨m2, 0, none⟩)], .agg #[.bool x.gone, .slice ua x.row.length cu], undef, undef, undef, undef, undef, undef, undef, undef], defers := [] } ∧ w8.heap.size ≤ bx ∧ W.heap[bx]? = some (.cells #[.bool x.gone, .slice ua x.row.length cu] 41 (0, 0)) ∧ Sk.Rw w8.heap.size W (.slice ua x.row.length cu) x.row ∧ Rn.Ga q m2 N w8 q w6.heap.size w6.heap.size (K1 ++ pre) W) ?ownA2 ?assign2 ?body2 ?done2 ?stop2
   case ownA2 =>
    rintro pre x a' u A' B' row ⟨bx, ua, cu, h0, hbx, hb, he, h1⟩ hg hr
    exact ⟨bx, ua, cu, h0, hbx, Rn.blk_own hb hg hr, Rn.own_own w8.heap.size _ _ _ () _ _ row he hg hr, Rn.Ga.own K1 HM2.out.1 HM2.out.2.1 HM2.out.2.2.1 _ _ _ row h1 hg hr⟩
   case assign2 =>
    rintro l pre x args W hI ⟨u, rfl, hu⟩ hpx hbW
    obtain ⟨ua, cu, rfl⟩ : ∃ ua cu, u = .slice ua x.row.length cu := Rn.own_form hu
    have HI := Lib.hid hI
    have HU := Lib.hid hu
    have HW3 : Hid (w8.heap.size ≤ W.heap.size) := Lib.hid hbW.size
    clear hI hu hpx hbW
    gi_wp2
    have ha : Below W.heap.size W (W.alloc (.cells #[.bool x.gone, .slice ua x.row.length cu] 41)) := (Below.refl _ W).alloc (Nat.le_refl _) _
    exact ⟨ha, W.heap.size, ua, cu, by first | rfl | trivial | exact ⟨rfl, rfl, rfl⟩, HW3.out, heap_alloc_new W _, HU.out.kept ha, Rn.own_below (Rn.Ga.own K1 HM2.out.1 HM2.out.2.1 HM2.out.2.2.1) HI.out ha⟩
   case body2 =>
    rintro l pre x a' W hl hlr ⟨bx, ua, cu, rfl, hbx, hbk, hu, hkd, v, M, h2, h3, h4, h5⟩ hpx hkw
    have HX9 : Hid (∀ w9 v9, Dk.Own 41 2 Rn.e2 w6.heap.size w9 v9 (M ++ [(x.gone, (ua, x.row.length, cu))]) → Ty.Grew W w9 v v9 → KeepsFrom w8.heap.size W (w9.setCell ⟨q, 0, none⟩ v9) ∧ Rn.Kd (Rn.Dq q m2 N) W (w9.setCell ⟨q, 0, none⟩ v9) ∧ Rn.Ga q m2 N w8 q w6.heap.size w6.heap.size (K1 ++ (pre ++ [x])) (w9.setCell ⟨q, 0, none⟩ v9)) := Lib.hid fun w9 v9 ho hg => by
     rw [← List.append_assoc]
     exact Rn.Ga.step (C := w8.heap.size) (l := K1 ++ pre) HQS.out (Nat.le_refl _) HM2.out.2.2.2.1 HM2.out.2.2.2.2.1 (HNT2.out W hkd).1 (HNT2.out W hkd).2 hkd h2 h3 h4 h5 ho hg (hu.mono HM2.out.2.2.2.2.2)
    have HOW := Lib.hid h3
    have HBK := Lib.hid h2
    have Hw8 : Hid (w6.heap.size ≤ W.heap.size) := Lib.hid (Nat.le_trans HM2.out.2.2.2.2.2 hkd.size)
    have HML : Hid (M.length < 400) := Lib.hid (by
     obtain ⟨t, ht⟩ := hpx
     have h9 : (pre ++ [x] ++ t).length = (Rn.in_ K ⟨true, false, ⟨kn, ki, ks⟩, Cl.ofN 0⟩).length := by rw [ht]
     have := HLN.out
     simp only [List.length_append, List.length_singleton] at h9 h4
     omega)
    obtain ⟨va, vn, vc, rfl⟩ := Rn.own_form3 h3
    have b0 : W.cell? ⟨q, 0, none⟩ = some (.slice va vn vc) := by rw [cell_of_row _ _ _ _ _ _ h2]; rfl
    have x0 : W.cell? ⟨bx, 0, none⟩ = some (.bool x.gone) := by rw [cell_of_row _ _ _ _ _ _ hbk]; rfl
    have x1 : W.cell? ⟨bx, 1, none⟩ = some (.slice ua x.row.length cu) := by rw [cell_of_row _ _ _ _ _ _ hbk]; rfl
    generalize x.gone = dg at x0 HX9 ⊢
    generalize x.row.length = dn at x1 HX9 ⊢
    clear hl hlr hbx hbk hu hkd h2 h3 h4 h5 hpx hkw
    gi_upto_region 12 with (fail)
    refine Rn.list_region (by kernel_rfl) ?_
    go_wp2_with (at_builtin; refine Dk.wpList_append1 23 _ 32 Tryz.underlying23 Rn.infoD rfl (by decide) Rn.e2_len Rn.e2_one (dg, (ua, dn, cu)) HOW.out Hw8.out (by have := HML.out; omega) (by have := HML.out; omega) _ rfl _ rfl (.tmp 33) (.tmp 35) (by rfl) (by rfl) (by rfl) (by rfl) ?_; intro v9 w9 h6 g6; have hp6 := (Rn.off HOW.out g6 HBK.out (by decide)).trans HBK.out; have d0 := cell_of_row _ _ 0 _ _ _ hp6; have k0 := frozen_of_row _ _ 0 _ _ hp6; simp only [List.getElem?_toArray, List.getElem?_cons_zero] at d0; have HE := Lib.hid (HX9.out w9 v9 h6 g6); obtain ⟨v6a, v6n, v6c, hv6⟩ := Rn.own_form3 h6; clear h6 g6 hp6; subst hv6)
    clear b0 d0 k0 x0 x1
    refine Sk.Calm.normal ?_
    exact HE.out
   case stop2 =>
    rintro N' c pre W hN hpre hne h hK
    exact h.elim
   case done2 =>
    rintro N2 W2 hN2 ⟨hkd, v, M, h2, h3, h4, h5⟩ hK2
    have hds : Bk.Ds W2 v K := by
     have := Rn.Ga.ds h3 h4 h5
     rwa [HK1.out, Rn.split_at HG.out.so ⟨kn, ki, ks⟩ (Cl.ofN 0) (Cl.ofN 0)] at this
    have HBW2 : Hid (Below w4.heap.size w4 W2) := Lib.hid (HB8.out.trans (hkd.low (fun b hb => .inl (by have := HQ.out; omega)) HB8.out.size))
    have HK3 : Hid (W2.heap[N]? = some (.deferred (some [])) ∧ W2.heap[N2]? = some (.deferred (some [])) ∧ N < w8.heap.size ∧ w8.heap.size ≤ N2) := Lib.hid ⟨(hkd.same N (.inr (.inr rfl)) HMX2.out.2.2.2).trans HN8.out, hK2, HMX2.out.2.2.2, hN2⟩
    obtain ⟨va, vn, vc, rfl⟩ := Rn.own_form3 h3
    have b0 : W2.cell? ⟨q, 0, none⟩ = some (.slice va vn vc) := by rw [cell_of_row _ _ _ _ _ _ h2]; rfl
    have HDS := Lib.hid hds
    have HDW : Hid (Below W2.heap.size W2 W2.drew) := Lib.hid (Below.refl _ W2).drew
    have HB0 : Hid (∀ W, Below W2.heap.size W2 W → W.cell? ⟨q, 0, none⟩ = some (.slice va vn vc)) := Lib.hid fun W g => (g.cell (World.block_lt_of_cell? W2 _ b0)).trans b0
    have CT := Lib.hid (Rn.told_c (HP.out.later (Rn.grow HBW2.out HDW.out)) HG.out)
    have HSA : Hid (∀ W v, Below W2.heap.size W2 W → Bk.Ds W v K → Calls Tryz.prog 15 #[.slice va vn vc, v] W fun e w' => e = .returned (.bool true) ∧ Below W.heap.size W w') := Lib.hid fun W v g h => Bk.rsame_c _ v K W (HDS.out.later g) h
    clear hkd h2 h3 h4 h5 hN2 hK2 hds b0 HSEQ2 HI02 HDL2 HNT2 HM2 HBM2
    gi_upto_region 13 with (fail)
    refine wpIn_wide.2 ?_
    go_region_held3 (fun wx => wx.cell? ⟨q, 0, none⟩ = some (.slice va vn vc))
     (first
      | exact HB0.out _ HDW.out
      | exact HB0.out _ (HDW.out.trans (g10.mono HDW.out.size))
      | exact HB0.out _ (HDW.out.trans ((Rn.grow g10 g11).mono HDW.out.size)))
     (first
      | (go_at_call 16; (with_reducible refine CT.out.mono ?_); rintro e w10 ⟨v8, rfl, hv8, g10⟩)
      | (go_at_call 15; (with_reducible refine (HSA.out _ v8 (HDW.out.trans (g10.mono HDW.out.size)) hv8).mono ?_); rintro e w11 ⟨rfl, g11⟩))
    all_goals
     have hg9 : Below W2.heap.size W2 w11 := HDW.out.trans ((Rn.grow g10 g11).mono HDW.out.size)
     have HE : Hid (w11.heap[N]? = some (.deferred (some [])) ∧ w11.heap[N2]? = some (.deferred (some [])) ∧ N ≠ N2 ∧ w.heap.size ≤ N ∧ w.heap.size ≤ N2 ∧ Below w.heap.size w w11) := Lib.hid (by
      have h1 := HK3.out
      have h2 := HN.out.1
      have h3 := HG4.out.size
      have h4 := HQS.out
      have h5 := HQ.out
      exact ⟨(hg9.block N (Array.getElem?_eq_some_iff.1 h1.1).1).trans h1.1, (hg9.block N2 (Array.getElem?_eq_some_iff.1 h1.2.1).1).trans h1.2.1, by omega, by omega, by omega, Rn.grow (Rn.grow HG4.out HBW2.out) hg9⟩)
     clear hv8 g10 g11 hg9
     first | refine NoPanic.normal ?_ | skip
     gi_wp2
     have hE9 : (w11.putObj N2 (.deferred none)).heap[N]? = some (.deferred (some [])) := (World.putObj_heap_other (by first | exact HE.out.2.2.1 | exact HE.out.2.2.1.symm)).trans HE.out.1
     refine ⟨by simp, .inl ⟨_, _, rfl, run_takeDeferred HE.out.2.1, ?_⟩⟩
     refine ⟨by simp, .inl ⟨_, _, rfl, run_takeDeferred hE9, ?_⟩⟩
     refine ⟨_, results_tmp rfl _ _ _, rfl, (HE.out.2.2.2.2.2.trans (belowK_b (Nat.le_refl _) w11 N2 _ _ HE.out.2.2.2.2.1 HE.out.2.1 rfl rfl)).trans (belowK_b (Nat.le_refl _) _ N _ _ HE.out.2.2.2.1 hE9 rfl rfl)⟩
 ·have HLD := Lib.hid fun (v : Value) (wz : World) (g : Below w.heap.size w wz) (hd : Bk.Ds wz v (L.take 200)) => Rn.loaded_n _ v s (L.take 200) wz (Rn.tb2 HT.out g) (HS.out.later g) hd HZ.out HI.out HK2.out h0
  unfold Rn.EarlyD at HEA
  generalize L.take 200 = K at HEA HLD HZ HI HK2
  clear hT hz hi h0
  rw [← callsIn_wide (n := 9)]
  refine callsIn_of_wp_marks Tryz.func8 rfl trivial ?_ rfl
  simp only [Tryz.ntmps8, List.size_toArray, List.length_cons, List.length_nil, Nat.reduceAdd, Nat.reduceSub, Array.replicate_succ, Array.replicate_zero, List.push_toArray, List.append_toArray, List.nil_append, List.cons_append]
  gi_upto_region 1 with (fail)
  rw [← hw1, ← hkb]
  clear hw1 hkb
  gi_wp2_with (first
   | (refine ⟨trivial, ?_⟩; gi_at_call 9; refine (callsIn_wide.2 (HLV.out _ HB1.out.1)).mono ?_; rintro e w2 ⟨rfl, g2⟩
      have HG2 := Lib.hid (HGR.out HB1.out.1 g2)
      clear g2)
   | (refine ⟨trivial, ?_⟩; gi_at_call 10; refine (callsIn_wide.2 (HEA.out _ HG2.out)).mono ?_; rintro e w3 ⟨a2, n2, c2, rfl, hd3, g3⟩
      have HG3 := Lib.hid (HGR.out HG2.out g3)
      have HD3 := Lib.hid hd3
      clear g3 hd3)
   | (refine ⟨trivial, ?_⟩; gi_at_call 13; refine (callsIn_wide.2 (HLD.out _ _ HG3.out HD3.out)).mono ?_; rintro e w4 ⟨rfl, g4⟩
      have HG4 := Lib.hid (HGR.out HG3.out g4)
      clear g4))
  exact ⟨_, results_tmp rfl _ _ _, rfl, HG4.out⟩
end Go.Proofs.YtbelkhkllneifaaGreatDoor
