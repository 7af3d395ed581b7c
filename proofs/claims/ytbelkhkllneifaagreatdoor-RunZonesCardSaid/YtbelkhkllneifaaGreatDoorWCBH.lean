/-
  
  
  
-/
import Derived.Test.YtbelkhkllneifaaGreatDoorWCAZ
import Derived.Test.YtbelkhkllneifaaGreatDoorWCAK
import Derived.Test.YtbelkhkllneifaaGreatDoorWCBG
import Derived.Test.YtbelkhkllneifaaGreatDoorWCAR
import Derived.Test.YtbelkhkllneifaaGreatDoorWCAQ
import Derived.Deep.RegionHeld3
import Derived.Test.YtbelkhkllneifaaGreatDoorWCBE
namespace Go.Proofs.YtbelkhkllneifaaGreatDoor
open Go Go.RowKit
theorem Rn.key_null {s : List Kn.C} (hr : Kn.right s = true) {d : Dd.D} (h : Dd.fitE s d = 0) : (Bk.key d).null = false := by
 obtain ⟨_, h2, h3⟩ := Dd.fitE_0 h
 obtain ⟨c, u, rfl, h1, _⟩ := Kn.right_head hr
 have hne := (Rn.fit_s hr h).2.2
 have hf := Bk.fitsAll_at _ _ h3 0 c (Bk.key d) (by unfold Dd.cols; split <;> rfl) (Rn.key_at hne)
 rw [Bk.fits_is (Bk.good_of hr (j := 0) rfl)] at hf
 unfold Cl.is at hf
 cases hn : (Bk.key d).null
 ·rfl
 ·rw [hn, h1] at hf
  simp at hf
theorem Rn.first_lo {s : List Kn.C} {L : List Dd.D} (h : Rn.wE s L = 0) {x : Dd.D} (hx : L[0]? = some x) : (Rn.zone s L 0 0).lo = (Zn.of [Bk.key x]).lo := by
 obtain ⟨hr, h1, hf, hso, _⟩ := Rn.wE_0 h
 have hxn := Rn.key_null hr (hf x (List.mem_of_getElem? hx))
 have hs := (Kn.right_len hr).1
 have e2 : (Zn.of [Bk.key x]).lo = Bk.key x := by
  unfold Zn.of
  rw [List.foldl_cons, List.foldl_nil]
  unfold Zn.add
  rw [if_neg (by rw [hxn]; decide)]
  rfl
 have e1 : Rn.zone s L 0 0 = Zn.of (Bk.col (Rn.bk L 0) 0) := by
  unfold Rn.zone
  rw [if_pos ⟨Int.le_refl _, by unfold Rn.nb; omega, Int.le_refl _, by omega⟩]
  rfl
 rw [e1, e2]
 have hb : Rn.bk L 0 = L.take 8 := by unfold Rn.bk; rw [Nat.mul_zero, List.drop_zero]
 have hxm : x ∈ Rn.bk L 0 := by
  rw [hb]
  exact List.mem_of_getElem? (i := 0) (by rw [List.getElem?_take, if_pos (by decide)]; exact hx)
 have hk0 : Bk.key x ∈ Bk.col (Rn.bk L 0) 0 := Bk.mem_col.2 ⟨x, hxm, rfl, by rw [List.getD_eq_getElem?_getD, Rn.key_at (Rn.fit_s hr (hf x (Rn.bk_mem hxm))).2.2]; rfl⟩
 have inv0 := Zn.of_inv (Bk.col (Rn.bk L 0) 0)
 have hval : (Zn.of (Bk.col (Rn.bk L 0) 0)).values = true := inv0.values.2 ⟨_, hk0, hxn⟩
 obtain ⟨hm, hnn, hle⟩ := inv0.lo hval
 have hl := hle _ hk0 hxn
 obtain ⟨d, hd, _, hdk⟩ := Bk.mem_col.1 hm
 have hdL := Rn.bk_mem hd
 have hkd : d.row[0]? = some (Bk.key d) := Rn.key_at (Rn.fit_s hr (hf d hdL)).2.2
 rw [List.getD_eq_getElem?_getD, hkd, Option.getD_some] at hdk
 obtain ⟨j, hj⟩ := List.mem_iff_getElem?.1 hdL
 rcases Nat.eq_zero_or_pos j with h0 | h0
 ·subst h0
  rw [hx] at hj
  rw [hdk, ← Option.some.inj hj]
 ·have := Rn.before hso h0 hx hj
  rw [hdk] at hl
  have ha := Zn.anti (Bk.key d) (Bk.key x)
  omega
end Go.Proofs.YtbelkhkllneifaaGreatDoor

namespace Go.Proofs.YtbelkhkllneifaaGreatDoor
open Go Go.RowKit
set_option maxHeartbeats 8000000 in
set_option maxRecDepth 100000 in
theorem Rn.lawZones_w (vs v : Value) (s : List Kn.C) (L : List Dd.D) (i j : Int) (w : World) (hT : Ty.Tabs w) (hs : Dd.Cols w vs s) (hv : Bk.Ds w v L) (hz : Bk.Zs L) (hi : ∀ d ∈ L, ∀ x ∈ d.row, Ty.I64 x.n) :
 Calls Tryz.prog 7 #[vs, v, .agg #[.int .i64 i, .int .i64 j]] w fun e w' => e = .returned (.bool true) ∧ Below w.heap.size w w' := by
 have HT := Lib.hid hT
 have HS := Lib.hid hs
 have HV := Lib.hid hv
 have HZ := Lib.hid (Rn.zs_take hz 200)
 have HI := Lib.hid (Rn.i64_take hi 200)
 have HK2 : Hid ((L.take 200).length ≤ 200) := Lib.hid Rn.take_le
 obtain ⟨a, c, rfl, -⟩ := hv
 obtain ⟨⟨sa, sc, rfl, -⟩, -⟩ := hs
 obtain ⟨w1, hw1⟩ : ∃ w1, w1 = w.alloc (.cells #[.int .i64 i, .int .i64 j] 66) := ⟨_, rfl⟩
 have HB1 : Hid (Below w.heap.size w w1) := Lib.hid (by rw [hw1]; exact (Below.refl _ w).alloc (Nat.le_refl _) _)
 have i0 := Kn.cell_new w #[.int .i64 i, .int .i64 j] 66 0 _ rfl
 have i1 := Kn.cell_new w #[.int .i64 i, .int .i64 j] 66 1 _ rfl
 simp only [List.getElem_toArray, List.getElem_cons_zero, List.getElem_cons_succ] at i0 i1
 rw [← hw1] at i0 i1
 obtain ⟨kb, hkb⟩ : ∃ kb, kb = w.heap.size := ⟨_, rfl⟩
 rw [← hkb] at i0 i1
 have HIJ := Lib.hid (And.intro i0 i1)
 have HLV := Lib.hid fun (wz : World) (g : Below w.heap.size w wz) => Rn.lives_c wz (Rn.tb2 HT.out g)
 have HEA := Lib.hid fun (wz : World) (g : Below w.heap.size w wz) => Rn.early_c (HV.out.later g)
 by_cases h0 : Rn.wE s (L.take 200) = 0
 ·have HLD := Lib.hid fun (v : Value) (wz : World) (g : Below w.heap.size w wz) (hd : Bk.Ds wz v (L.take 200)) => Rn.loaded_p _ v s (L.take 200) wz (Rn.tb2 HT.out g) (HS.out.later g) hd HZ.out HI.out HK2.out h0
  have HG : Hid (Rn.Gd s (L.take 200)) := Lib.hid ⟨h0, HK2.out⟩
  have HN : Hid (0 < (L.take 200).length) := Lib.hid (Rn.wE_0 h0).2.1
  unfold Rn.EarlyD at HEA
  generalize L.take 200 = K at HEA HLD HG HZ HI HK2 HN
  clear hT hz hi h0 i0 i1
  go_enter Tryz.func7, Tryz.ntmps7
  go_upto_region 1 with (fail)
  rw [← hw1, ← hkb]
  clear hw1 hkb
  go_wp2_with fail
  with_reducible refine (HLV.out _ HB1.out).mono ?_
  rintro e w2 ⟨rfl, g2⟩
  have HG2 := Lib.hid (Rn.grow HB1.out g2)
  have HX2 := Lib.hid g2
  clear g2
  go_wp2_with fail
  with_reducible refine (HEA.out _ HG2.out).mono ?_
  rintro e w3 ⟨a2, n2, c2, rfl, hd3, g3⟩
  have HG3 := Lib.hid (Rn.grow HG2.out g3)
  have HX3 := Lib.hid (Rn.grow HX2.out g3)
  have HD3 := Lib.hid hd3
  clear g3 hd3
  go_upto_region 7 with (with_reducible refine (HLD.out _ _ HG3.out HD3.out).mono ?_; rintro e w4 ⟨p, rfl, hp, g4⟩; have HG4 := Lib.hid (Rn.grow HG3.out g4); have HX4 := Lib.hid (Rn.grow HX3.out g4); have HD4 := Lib.hid (HD3.out.later g4); have HP := Lib.hid hp; clear g4 hp)
  have hx : ∃ x, K[0]? = some x := ⟨_, List.getElem?_eq_getElem HN.out⟩
  obtain ⟨x, hx⟩ := hx
  obtain ⟨a', c', e9, hlc, hcm, hds⟩ := id HD4.out
  simp only [Value.slice.injEq] at e9
  obtain ⟨rfl, rfl, rfl⟩ := e9
  rcases hds with h9 | ⟨b, o, rfl, hb, hc⟩
  ·have := HN.out; rw [h9] at this; simp at this
  obtain ⟨u, _, e1, hu⟩ := hc 0 x hx
  obtain ⟨ua, uc, rfl, -⟩ := id hu
  have nx := HG.out.ne x (List.mem_of_getElem? hx)
  have zx : Kn.Z (Bk.key x) := HZ.out x (List.mem_of_getElem? hx) _ (List.mem_of_getElem? (Rn.key_at nx))
  obtain ⟨_, xb, xo, rfl, hxb, hxa⟩ := Rn.row_at hu (Rn.key_at nx)
  have HLO : Hid ((Rn.zone s K 0 0).lo = (Zn.of [Bk.key x]).lo) := Lib.hid (Rn.first_lo HG.out.ok hx)
  have CO := Lib.hid fun (wz : World) (v : Value) (h : Kn.Vals wz v [Bk.key x]) => Zn.rof_c v [Bk.key x] wz h (fun y hy => by rw [List.mem_singleton] at hy; subst hy; exact zx)
  have CZ := Lib.hid fun (i j : Int) (wz : World) (g : Below w4.heap.size w4 wz) => Rn.zone_c (HP.out.later g) i j
  have CR := Lib.hid fun (wz : World) (g : Below w4.heap.size w4 wz) => Rn.rzone_c _ _ s K i j wz (HS.out.later (Rn.grow HG4.out g)).kn (HD4.out.later g) HZ.out HG.out.rt HG.out.ft HN.out (by have := HK2.out; omega)
  obtain ⟨x0, x1, x2⟩ := hxa
  simp only [Nat.zero_mul, Nat.add_zero] at e1 x0 x1 x2
  have hnx : (0 : Int) < (x.row.length : Int) := by have := List.length_pos_iff.2 nx; omega
  have hnx2 : 0 < x.row.length := List.length_pos_iff.2 nx
  have hK : (0 : Int) < (K.length : Int) := by have := HN.out; omega
  have hK2 : 0 < K.length := HN.out
  have HKV : Hid (∀ (wz : World), Kn.Vals (wz.alloc (.cells #[.bool (Bk.key x).null, .int .i64 (Bk.key x).n, .string (Bk.key x).s] 33)) (.slice (some ⟨wz.heap.size, 0, none⟩) 1 1) [Bk.key x]) := Lib.hid fun wz => by
   refine ⟨_, 1, rfl, .inr ⟨wz.heap.size, 0, rfl, by simp, by simp, fun i y hy => ?_⟩⟩
   have h0 : i = 0 := by
    have := (List.getElem?_eq_some_iff.1 hy).1
    simp at this
    omega
   subst h0
   obtain rfl : Bk.key x = y := by simpa using hy
   exact ⟨Kn.cell_new wz _ _ 0 _ rfl, Kn.cell_new wz _ _ 1 _ rfl, Kn.cell_new wz _ _ 2 _ rfl⟩
  generalize x.row.length = xl at e1 hnx hnx2
  generalize Bk.key x = X at x0 x1 x2 HLO CO HKV zx
  generalize Zn.of [X] = z1 at HLO CO
  have HZ0 : Hid (∀ wz, Below w4.heap.size w4 wz → Calls Tryz.prog 27 #[.pointer (some ⟨p, 0, none⟩), .int .i64 0, .int .i64 0] wz fun e w' => e = .returned (Rn.zone s K 0 0).val ∧ Below wz.heap.size wz w') := Lib.hid fun wz g => CZ.out 0 0 wz g
  have HZ1 : Hid (∀ wz, Below w4.heap.size w4 wz → Calls Tryz.prog 27 #[.pointer (some ⟨p, 0, none⟩), .int .i64 i, .int .i64 j] wz fun e w' => e = .returned (Rn.zone s K i j).val ∧ Below wz.heap.size wz w') := Lib.hid fun wz g => CZ.out i j wz g
  generalize Rn.zone s K 0 0 = z0 at HLO HZ0
  generalize Rn.zone s K i j = z at HZ1 CR
  obtain ⟨zn, zw, ⟨l0, l1, l2⟩, ⟨m0, m1, m2⟩⟩ := z
  obtain ⟨yn, yw, ylo, ⟨n0, n1, n2⟩⟩ := z0
  obtain ⟨tn, tw, tlo, ⟨o0, o1, o2⟩⟩ := z1
  have hlo := HLO.out
  simp only at hlo
  subst hlo
  obtain ⟨r0, r1, r2⟩ := ylo
  obtain ⟨Xn, Xi, Xs⟩ := X
  unfold Zn.Zo.val at HZ0 HZ1 CR CO
  simp only at x0 x1 x2 HZ0 HZ1 CR CO HKV
  have HS9 : Hid (∀ W, Below w4.heap.size w4 W → W.cell? ⟨kb, 0, none⟩ = some (.int .i64 i) ∧ W.cell? ⟨kb, 1, none⟩ = some (.int .i64 j) ∧ W.cell? ⟨b, o + 1, none⟩ = some (.slice (some ⟨xb, xo, none⟩) xl uc) ∧ W.cell? ⟨xb, xo, none⟩ = some (.bool Xn) ∧ W.cell? ⟨xb, xo + 1, none⟩ = some (.int .i64 Xi) ∧ W.cell? ⟨xb, xo + 2, none⟩ = some (.string Xs)) := Lib.hid fun W g => by
   have hk : ∀ {a : Addr} {z : Value}, w4.cell? a = some z → W.cell? a = some z := fun {a z} h => (g.cell (World.block_lt_of_cell? w4 _ h)).trans h
   have hk1 : ∀ {a : Addr} {z : Value}, w1.cell? a = some z → W.cell? a = some z := fun {a z} h => hk ((HX4.out.cell (World.block_lt_of_cell? w1 _ h)).trans h)
   exact ⟨hk1 HIJ.out.1, hk1 HIJ.out.2, hk e1, hk x0, hk x1, hk x2⟩
  have HDW : Hid (Below w4.heap.size w4 w4.drew) := Lib.hid (Below.refl _ w4).drew
  clear e1 x0 x1 x2 hx hb hc hu hxb hlc hcm nx zx CZ HLO
  have hf1 : ∀ w : World, (Instr.field 68 (.agg #[.bool yn, .bool yw, .bool r0, .int .i64 r1, .string r2, .bool n0, .int .i64 n1, .string n2]) 2).run Tryz.prog w = .ok (.agg #[.bool r0, .int .i64 r1, .string r2]) w := fun _ => rfl
  have hf2 : ∀ w : World, (Instr.field 68 (.agg #[.bool tn, .bool tw, .bool r0, .int .i64 r1, .string r2, .bool o0, .int .i64 o1, .string o2]) 2).run Tryz.prog w = .ok (.agg #[.bool r0, .int .i64 r1, .string r2]) w := fun _ => rfl
  go_region_held3 (fun W => W.cell? ⟨kb, 0, none⟩ = some (.int .i64 i) ∧ W.cell? ⟨kb, 1, none⟩ = some (.int .i64 j) ∧ W.cell? ⟨b, o + 1, none⟩ = some (.slice (some ⟨xb, xo, none⟩) xl uc) ∧ W.cell? ⟨xb, xo, none⟩ = some (.bool Xn) ∧ W.cell? ⟨xb, xo + 1, none⟩ = some (.int .i64 Xi) ∧ W.cell? ⟨xb, xo + 2, none⟩ = some (.string Xs))
   (first
    | exact HS9.out _ HDW.out
    | exact HS9.out _ HG5.out
    | exact HS9.out _ HG6.out
    | exact HS9.out _ (HG6.out.alloc HG6.out.size _)
    | exact HS9.out _ HG7.out
    | exact HS9.out _ (HG7.out.alloc HG7.out.size _)
    | exact HS9.out _ HG8.out)
   (first
    | (go_at_call 27; (with_reducible refine (HZ1.out _ HDW.out).mono ?_); rintro e w5 ⟨rfl, g5⟩; have HG5 := Lib.hid (Rn.grow HDW.out g5); clear g5)
    | (go_at_call 28; (with_reducible refine (CR.out _ HG5.out).mono ?_); rintro e w6 ⟨rfl, g6⟩; have HG6 := Lib.hid (Rn.grow HG5.out g6); clear g6)
    | (go_at_call 27; (with_reducible refine (HZ0.out _ HG6.out).mono ?_); rintro e w7 ⟨rfl, g7⟩; have HG7 := Lib.hid (Rn.grow HG6.out g7); clear g7)
    | (go_at_call 27; (with_reducible refine (HZ0.out _ (HG6.out.alloc HG6.out.size _)).mono ?_); rintro e w7 ⟨rfl, g7⟩; have HG7 := Lib.hid (Rn.grow (HG6.out.alloc HG6.out.size _) g7); have HG7B := Lib.hid g7; clear g7)
    | (go_at_call 29; (with_reducible refine (CO.out _ _ (HKV.out _)).mono ?_); rintro e w8 ⟨rfl, g8⟩; have HG8 := Lib.hid (Rn.grow (HG7.out.alloc HG7.out.size _) g8); clear g8)
    | (go_at_call 29; (with_reducible refine (CO.out _ _ ((HKV.out _).later HG7B.out)).mono ?_); rintro e w8 ⟨rfl, g8⟩; have HG8 := Lib.hid (Rn.grow HG7.out g8); clear g8))
  all_goals
   have HE := Lib.hid (Rn.grow HG4.out HG8.out)
   go_wp2
   go_ret
   exact ⟨rfl, HE.out⟩
 ·have HLD := Lib.hid fun (v : Value) (wz : World) (g : Below w.heap.size w wz) (hd : Bk.Ds wz v (L.take 200)) => Rn.loaded_n _ v s (L.take 200) wz (Rn.tb2 HT.out g) (HS.out.later g) hd HZ.out HI.out HK2.out h0
  unfold Rn.EarlyD at HEA
  generalize L.take 200 = K at HEA HLD HZ HI HK2
  clear hT hz hi h0 i0 i1
  go_enter Tryz.func7, Tryz.ntmps7
  go_upto_region 1 with (fail)
  rw [← hw1, ← hkb]
  clear hw1 hkb
  go_wp2_with fail
  with_reducible refine (HLV.out _ HB1.out).mono ?_
  rintro e w2 ⟨rfl, g2⟩
  have HG2 := Lib.hid (Rn.grow HB1.out g2)
  clear g2
  go_wp2_with fail
  with_reducible refine (HEA.out _ HG2.out).mono ?_
  rintro e w3 ⟨a2, n2, c2, rfl, hd3, g3⟩
  have HG3 := Lib.hid (Rn.grow HG2.out g3)
  have HD3 := Lib.hid hd3
  clear g3 hd3
  go_wp2_with fail
  with_reducible refine (HLD.out _ _ HG3.out HD3.out).mono ?_
  rintro e w4 ⟨rfl, g4⟩
  have HG4 := Lib.hid (Rn.grow HG3.out g4)
  clear g4
  go_wp2
  go_ret
  exact ⟨rfl, HG4.out⟩
end Go.Proofs.YtbelkhkllneifaaGreatDoor

namespace Go.Proofs.YtbelkhkllneifaaGreatDoor
open Go.RowKit Go.ChangeShapes Go.WideShapes Go.ChangeAt Go.Deep
section
variable {H : Type} {enc : TypeId × Value → H} {W : World}
set_option maxRecDepth 100000 in
theorem Rn.open_pair {v : Value} {d : DataW H} {ps : List MemPlace} {r : Reach} {b0 : Nat} (hv : Value.okWide Tryz.prog W r b0 66 v) (h : DataW.Trod enc Tryz.prog W 0 (fun _ => true) true 66 v d ps) :
 ∃ i j : Int, v = .agg #[.int .i64 i, .int .i64 j] := by
 obtain ⟨cs, rfl⟩ : ∃ cs, v = .agg cs := by
  simp only [Value.okWide, Tryz.underlying66] at hv
  obtain ⟨cs, h1, _⟩ := hv
  exact ⟨cs, h1⟩
 obtain ⟨fuel, hf⟩ := h
 have hf : DataW.trod enc Tryz.prog W 0 (fun _ => true) true fuel 66 cs.toList = some (d, ps) := hf
 generalize hcs : cs.toList = l at hf
 obtain ⟨xs, f', _, _, hcl, hxl, hg⟩ := DataW.trod_array Tryz.underlying66 hf
 have hC : Tryz.prog.cellsOf 66 = 2 := by kernel_rfl
 have hI : Tryz.prog.cellsOf 3 = 1 := by kernel_rfl
 rw [hC] at hcl
 rw [hI] at hg
 match l, hcl, xs, hxl with
 | [c0, c1], _, [y0, y1], _ =>
   have g0 := hg 0 (by decide)
   have g1 := hg 1 (by decide)
   obtain ⟨i, e0, _⟩ := DataW.trod_int Tryz.underlying3 (show DataW.trod enc Tryz.prog W 0 (fun _ => true) true f' 3 [c0] = some y0 from g0)
   obtain ⟨j, e1, _⟩ := DataW.trod_int Tryz.underlying3 (show DataW.trod enc Tryz.prog W 0 (fun _ => true) true f' 3 [c1] = some y1 from g1)
   simp only [List.cons.injEq, and_true] at e0 e1
   subst e0 e1
   refine ⟨i, j, ?_⟩
   rw [← Array.toArray_toList (xs := cs), hcs]
end
end Go.Proofs.YtbelkhkllneifaaGreatDoor
