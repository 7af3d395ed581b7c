import Derived.Test.YtbelkhkllneifaaGreatDoorWEAK
import Derived.Test.YtbelkhkllneifaaGreatDoorWEAA
import Derived.Test.YtbelkhkllneifaaGreatDoorWEAY
import Derived.Test.YtbelkhkllneifaaGreatDoorWEAT
import Derived.Test.YtbelkhkllneifaaGreatDoorWEAS
import Derived.Deep.RegionLaw
import Derived.Deep.RegionLawGrows
import Derived.Test.YtbelkhkllneifaaGreatDoorWEAP
import Derived.Test.YtbelkhkllneifaaGreatDoorWEAG
import Derived.Test.YtbelkhkllneifaaGreatDoorWEAE
import Derived.Laws.Rows
import Derived.Laws.Tables
import Derived.Laws.CopyOwn
namespace Go.Proofs.YtbelkhkllneifaaGreatDoor
section
open Go.RowKit
set_option maxHeartbeats 4000000 in
set_option maxRecDepth 100000 in
theorem Bk.psorted_c (v : Value) (L : List Dd.D) (w : World) (hv : Bk.Ds w v L) (hz : Bk.Zs L) : Calls Tryz.prog 35 #[v] w fun e w' => e = .returned (.bool (Bk.sorted L)) ∧ Below w.heap.size w w' := by
 obtain ⟨a, c, rfl, hlc, hcm, h⟩ := hv
 have HH := Lib.hid h
 have HZ := Lib.hid hz
 clear h hz
 generalize hB : Bk.sorted L = B
 have HB := Lib.hid hB
 clear hB
 go_enter Tryz.func35, Tryz.ntmps35
 go_wp2_with fail
 go_loopw [7] (fun i wr => ∃ k : Nat, k ≤ L.length ∧ i = .int .i64 k ∧ (∀ j, j < k → Bk.step L j = true) ∧ Below w.heap.size w wr) (fun i _ => L.length - (intOf i).toNat)
 case atStart => exact ⟨0, Nat.zero_le _, rfl, (fun j hj => by omega), Below.refl _ _⟩
 case round =>
  obtain ⟨k, hk, rfl, hs, hg⟩ := hrel
  have HS := Lib.hid hs
  have HG := Lib.hid hg
  clear hs
  by_cases hkl : k < L.length
  ·rcases HH.out with rfl | ⟨b, o, rfl, hlt, hc⟩
   ·simp at hkl
   ·have hx := List.getElem?_eq_getElem hkl
    have hm := List.getElem_mem hkl
    generalize L[k] = d at hx hm
    obtain ⟨u, c0, c1, hu⟩ := hc k d hx
    have hu := hu.later hg
    have c0 := (hg.cell (p := ⟨b, o + k * 2, none⟩) hlt).trans c0
    have c1 := (hg.cell (p := ⟨b, o + k * 2 + 1, none⟩) hlt).trans c1
    have dk : (k : Int) < (L.length : Int) := by omega
    have dk0 : (0 : Int) ≤ (k : Int) := by omega
    have HK := Lib.hid hkl
    have HX := Lib.hid hx
    have HC := Lib.hid hc
    have HU := Lib.hid hu
    have hlw : b < wr.heap.size := Nat.lt_of_lt_of_le hlt hg.size
    have HLW := Lib.hid hlw
    obtain ⟨ua, uc, rfl, huc⟩ := hu
    have HUC := Lib.hid huc
    clear hc hx hkl hk huc hlw
    go_upto_region 4 with (fail)
    have HB1 : Hid (Below wr.heap.size wr (wr.alloc (.cells #[.bool d.gone, .slice ua d.row.length uc] 41))) := Lib.hid ((Below.refl _ _).alloc (Nat.le_refl _) _)
    have x1 := Kn.cell_new wr #[.bool d.gone, .slice ua d.row.length uc] 41 1 _ rfl
    simp only [List.getElem_toArray, List.getElem_cons_zero, List.getElem_cons_succ] at x1
    obtain ⟨q, hq⟩ : ∃ q, q = wr.heap.size := ⟨_, rfl⟩
    rw [← hq] at x1 ⊢
    clear hq c0 c1
    generalize wr.alloc _ = w1 at HB1 x1 ⊢
    have HG1 := Lib.hid (HG.out.trans (HB1.out.mono HG.out.size))
    by_cases he : d.row = []
    ·have HE := Lib.hid (Bk.sorted_no HK.out (Bk.step_empty HX.out he))
     obtain rfl : B = false := HB.out.symm.trans HE.out
     rw [he] at x1
     simp only [List.length_nil] at x1
     clear he hm
     go_wp2
     go_ret
     exact ⟨rfl, HG1.out⟩
    ·have hz0 : ((d.row.length : Int) == 0) = false := by
      rw [beq_eq_false_iff_ne]
      have := List.length_pos_iff.2 he
      omega
     rcases HUC.out with h0 | ⟨b2, o2, rfl, hlt2, hm2, hcc⟩
     ·exact absurd h0 he
     ·have hp0 : 0 < d.row.length := List.length_pos_iff.2 he
      have hx0 := List.getElem?_eq_getElem hp0
      have hzx := HZ.out d hm _ (List.getElem_mem hp0)
      generalize d.row[0] = x at hx0 hzx
      obtain ⟨e0, e1, e2⟩ := hcc 0 x hx0
      simp only [Nat.zero_mul, Nat.add_zero] at e0 e1 e2
      have e0 := (HB1.out.cell (p := ⟨b2, o2, none⟩) hlt2).trans e0
      have e1 := (HB1.out.cell (p := ⟨b2, o2 + 1, none⟩) hlt2).trans e1
      have e2 := (HB1.out.cell (p := ⟨b2, o2 + 2, none⟩) hlt2).trans e2
      have HE := Lib.hid he
      have hp1 : (0 : Int) < (d.row.length : Int) := by omega
      go_upto_region 6 with (fail)
      have X1 := fun d os => cell_regrown x1 d os
      have E0 := fun d os => cell_regrown e0 d os
      have E1 := fun d os => cell_regrown e1 d os
      have E2 := fun d os => cell_regrown e2 d os
      clear x1
      cases k with
      | zero =>
        have HF := Lib.hid (Bk.step_first HX.out he)
        clear hcc e0 e1 e2 hm hzx hp0 he
        refine wp_region_quiet_below (by kernel_rfl) (by kernel_rfl) ?_
        repeat (go_big_quiet_step (fail))
        refine wpQuiet_nil ?_
        intro _ hw'
        have HG2 := Lib.hid (HG1.out.trans ((Bk.below_reg hw').mono HG1.out.size))
        go_wp2
        go_roundw
        case rel => exact ⟨1, HK.out, by simp, (fun j hj => by obtain rfl : j = 0 := (by omega); exact HF.out), HG2.out⟩
        case measure => (have := HK.out; simp [intOf]; omega)
      | succ j =>
        have hjl : j < L.length := by have := HK.out; omega
        have hy := List.getElem?_eq_getElem hjl
        have hmy := List.getElem_mem hjl
        generalize L[j] = p at hy hmy
        obtain ⟨u2, d0, d1, hu2⟩ := HC.out j p hy
        have hu2 := hu2.later HG1.out
        have d1 := (HG1.out.cell (p := ⟨b, o + j * 2 + 1, none⟩) hlt).trans d1
        have hpe := Bk.step_row hy (HS.out j (by omega))
        obtain ⟨ua2, uc2, rfl, huc2⟩ := hu2
        rcases huc2 with h0 | ⟨b3, o3, rfl, hlt3, hm3, hcc3⟩
        ·exact absurd h0 hpe
        ·have hq0 : 0 < p.row.length := List.length_pos_iff.2 hpe
         have hy0 := List.getElem?_eq_getElem hq0
         have hzy := HZ.out p hmy _ (List.getElem_mem hq0)
         generalize p.row[0] = y at hy0 hzy
         obtain ⟨g0, g1, g2⟩ := hcc3 0 y hy0
         simp only [Nat.zero_mul, Nat.add_zero] at g0 g1 g2
         have G0 := fun d os => cell_regrown g0 d os
         have G1 := fun d os => cell_regrown g1 d os
         have G2 := fun d os => cell_regrown g2 d os
         have D1 := fun d os => cell_regrown d1 d os
         have HF := Lib.hid (Bk.step_next HX.out hy hx0 hy0)
         have cA := Kn.compare_c y x
         generalize Kn.cmp y x = z at HF cA
         unfold Kn.V.val at cA
         have CA : Hid (∀ p : Regrown, _) := Lib.hid fun p : Regrown => Calls.regrown_of (d := p.d) (os := p.os) (w := w1) (cA _)
         have hq1 : (0 : Int) < (p.row.length : Int) := by omega
         have hwr : IntKind.i64.wrap ((j : Int) + 1 - 1) = (j : Int) := by rw [IntKind.wrap_i64]; omega
         have hwr2 : IntKind.i64.wrap (j : Int) = (j : Int) := by rw [IntKind.wrap_i64]; omega
         have dj : (j : Int) < (L.length : Int) := by omega
         have dj0 : (0 : Int) ≤ (j : Int) := by omega
         have dj1 : (0 : Int) < (j : Int) + 1 := by omega
         simp only [Int.natCast_add, Int.natCast_one] at dk dk0
         have HJ := Lib.hid hjl
         clear hcc hcc3 e0 e1 e2 g0 g1 g2 d0 d1 hm hmy hzx hzy hp0 hq0 he hpe hy hx0 hy0 cA hjl
         by_cases hz9 : (0 : Int) ≤ z
         ·have hzf : decide (z < 0) = false := decide_eq_false (by omega)
          have hzb : decide ((0 : Int) ≤ z) = true := decide_eq_true hz9
          obtain rfl : B = false := HB.out.symm.trans (Bk.sorted_no HK.out (HF.out.trans hzf))
          clear hzf
          refine wp_region_quiet_below (by kernel_rfl) (by kernel_rfl) ?_
          repeat (go_big_quiet_step (first | with_reducible exact CA.out _))
          refine wpQuiet_nil ?_
          intro _ hw'
          have HG2 := Lib.hid (HG1.out.trans ((Bk.below_reg hw').mono HG1.out.size))
          go_wp2
          go_ret
          exact ⟨rfl, HG2.out⟩
         ·have hzt := Lib.hid (HF.out.trans (decide_eq_true (show z < 0 by omega)))
          have hzb : decide ((0 : Int) ≤ z) = false := decide_eq_false hz9
          refine wp_region_quiet_below (by kernel_rfl) (by kernel_rfl) ?_
          repeat (go_big_quiet_step (first | with_reducible exact CA.out _))
          refine wpQuiet_nil ?_
          intro _ hw'
          have HG2 := Lib.hid (HG1.out.trans ((Bk.below_reg hw').mono HG1.out.size))
          go_wp2
          go_roundw
          case rel => exact ⟨j + 2, HK.out, by simp; omega, (fun i hi => by
           rcases Nat.lt_or_ge i (j + 1) with h | h
           ·exact HS.out i h
           ·obtain rfl : i = j + 1 := by omega
            exact hzt.out), HG2.out⟩
          case measure => (have := HK.out; simp [intOf]; omega)
  ·obtain rfl : k = L.length := by omega
   have dk : ¬ (L.length : Int) < (L.length : Int) := by omega
   have HY := Lib.hid (Bk.sorted_yes HS.out)
   obtain rfl : B = true := HB.out.symm.trans HY.out
   clear hkl hk
   go_wp2
   go_ret
   exact ⟨rfl, HG.out⟩
end
section
open Go.RowKit
open Ty (num txt)
theorem Bk.stG_le (s : Dd.St) : (Bk.stG s).1 ≤ 8 := by
 unfold Bk.stG
 split
 ·exact Nat.zero_le _
 ·rename_i h
  split
  ·simp only; omega
  ·exact Nat.zero_le _
theorem Bk.stD_all {w : Nat} : ∀ (cs : List Kn.C) (i : Nat) (A : List Dd.D) (s : Dd.St), Bk.Wide w A → Bk.Zs A → (Bk.stD i cs A s).1.length = A.length ∧ Bk.Wide w (Bk.stD i cs A s).1 ∧ Bk.Zs (Bk.stD i cs A s).1
 | [], _, _, _, h1, h2 => ⟨rfl, h1, h2⟩
 | c :: cs, i, A, s, h1, h2 => by
   obtain ⟨a1, a2, a3⟩ := Bk.stD_all cs (i + 1) (Bk.stC c i A s).1 (Bk.stC c i A s).2 (Bk.stC_wide h1) (Bk.stC_zs h2)
   exact ⟨a1.trans (Bk.stC_len ..), a2, a3⟩
theorem Bk.stR_all (s : List Kn.C) (l : List UInt8) : (Bk.stR s l).1.length ≤ 8 ∧ Bk.Wide s.length (Bk.stR s l).1 ∧ Bk.Zs (Bk.stR s l).1 := by
 obtain ⟨a1, a2, a3⟩ := Bk.stD_all s 0 (Bk.zero s.length (Bk.stG ⟨l, 0, false⟩).1 (Bk.stG ⟨l, 0, false⟩).2.1) (Bk.stG ⟨l, 0, false⟩).2.2 (w := s.length) (Bk.zero_wide s.length (Bk.stG ⟨l, 0, false⟩).1 (Bk.stG ⟨l, 0, false⟩).2.1) (Bk.zero_zs s.length (Bk.stG ⟨l, 0, false⟩).1 (Bk.stG ⟨l, 0, false⟩).2.1)
 refine ⟨?_, a2, a3⟩
 unfold Bk.stR
 rw [a1, Bk.zero_len]
 exact Bk.stG_le _
theorem Bk.rdr_new {w : World} {b : Nat} {l : List UInt8} (hc : Ty.Cur b w l 0) (hT : Ty.Tabs w) (hb : Ty.G ≤ b) (hl : l.length ≤ 140737488351232) : Bk.Rdr w.heap.size b (w.alloc (.cells #[.pointer (some ⟨b, 0, none⟩), .bool false] 167)) ⟨l, 0, false⟩ :=
 ⟨(((Below.refl w.heap.size w).alloc (Nat.le_refl _) _).block b hc.lt).trans hc, heap_alloc_new w _, by have := hc.lt; omega, hT.alloc _, hb, hT.two, hl⟩
def Bk.GotN (w : World) (r : Nat × List Dd.D) (e : Ending) (w' : World) : Prop :=
 ∃ v, e = .returned (.tuple #[v, .int .i64 ((r.1 : Nat) : Int)]) ∧ ((r.2 = [] ∧ v = .slice none 0 0) ∨ ∃ q R, v = .slice (some ⟨q, 0, none⟩) r.2.length r.2.length ∧ Bk.Mx q w' R r.2 ∧ w.heap.size ≤ q ∧ r.2.length ≤ 8 ∧ ∀ d ∈ r.2, d.row.length ≤ 6) ∧ Below w.heap.size w w'
theorem Bk.GotN.bad {w w' : World} {r : Nat × List Dd.D} {z : Int} {q : Nat} (hr : r = (q, [])) (hz : z = (q : Int)) (g : Below w.heap.size w w') : Bk.GotN w r (.returned (.tuple #[.slice none 0 0, .int .i64 z])) w' :=
 ⟨_, by rw [hr, hz], .inl ⟨by rw [hr], rfl⟩, g⟩
theorem Bk.GotN.good {w w' : World} {r : Nat × List Dd.D} {q : Nat} {R : Nat → Option Addr × Nat × Nat} {A : List Dd.D} (hr : r = (0, A)) (h : Bk.Mx q w' R A ∧ w.heap.size ≤ q) (h8 : A.length ≤ 8) (h6 : ∀ d ∈ A, d.row.length ≤ 6) (g : Below w.heap.size w w') : Bk.GotN w r (.returned (.tuple #[.slice (some ⟨q, 0, none⟩) A.length A.length, .int .i64 0])) w' := by
 subst hr
 exact ⟨_, rfl, .inr ⟨q, R, rfl, h.1, h.2, h8, h6⟩, g⟩
set_option maxHeartbeats 8000000 in
set_option maxRecDepth 100000 in
theorem Bk.pread_c (vs : Value) (s : List Kn.C) (t : ByteArray) (w : World) (hT : Ty.Tabs w) (hs : Kn.Cols w vs s) (ht : t.size ≤ 140737488351232) :
 Calls Tryz.prog 87 #[vs, .string t] w (Bk.GotN w (Bk.rd s t.data.toList)) := by
 obtain ⟨V, hV⟩ : ∃ V, V = Bk.rd s t.data.toList := ⟨_, rfl⟩
 rw [← hV]
 have HV := Lib.hid hV
 have HT := Lib.hid hT
 have HS := Lib.hid hs
 have cR := Kn.right_c vs s w hs
 have HLN : Hid (t.data.toList.length ≤ 140737488351232) := Lib.hid (by rw [Ty.length_data]; exact ht)
 have CFR := Lib.hid fun (wz : World) (h : Ty.Tabs wz) => Ty.from_f t.data.toList wz h
 rw [Ty.S_data] at CFR
 obtain ⟨sa, sc, rfl, -⟩ := hs
 clear hV hT ht
 cases hr : Kn.right s
 ·rw [hr] at cR
  have HE := Lib.hid (HV.out.trans (Bk.rd_k (l := t.data.toList) hr))
  clear hr
  go_enter Tryz.func87, Tryz.ntmps87
  go_wp2_with fail
  with_reducible refine cR.mono ?_
  rintro e w1 ⟨rfl, g1⟩
  have HG := Lib.hid g1
  clear g1
  go_wp2
  go_ret2
  exact Bk.GotN.bad HE.out rfl HG.out
 rw [hr] at cR
 obtain ⟨hx1, hx2⟩ := Bk.rd_st hr t.data.toList
 have HLN6 := Lib.hid (Kn.right_len hr)
 obtain ⟨ha1, ha2, ha3⟩ := Bk.stR_all s t.data.toList
 have HX1 := Lib.hid fun h => HV.out.trans (hx1 h)
 have HX2 := Lib.hid fun h1 h2 h3 => HV.out.trans (hx2 h1 h2 h3)
 have HA := Lib.hid (And.intro ha1 (And.intro ha2 ha3))
 have CD := Lib.hid fun (r b : Nat) (wz : World) (h1 : Bk.Rdr r b wz ⟨t.data.toList, 0, false⟩) (h2 : Below w.heap.size w wz) (h3 : w.heap.size ≤ r) (h4 : w.heap.size ≤ b) => Bk.deeds_c r b ⟨t.data.toList, 0, false⟩ (.slice sa s.length sc) s w wz h1 HS.out h2 h3 h4 HLN6.out (Bk.stG_le _)
 have HSTR : Hid (Bk.stD 0 s (Bk.zero s.length (Bk.stG ⟨t.data.toList, 0, false⟩).1 (Bk.stG ⟨t.data.toList, 0, false⟩).2.1) (Bk.stG ⟨t.data.toList, 0, false⟩).2.2 = Bk.stR s t.data.toList) := Lib.hid rfl
 simp only [HSTR.out] at CD
 have HRN := Lib.hid fun (wz : World) (b : Nat) (h1 : Ty.Cur b wz t.data.toList 0) (h2 : Ty.Tabs wz) (h3 : Ty.G ≤ b) => Bk.rdr_new h1 h2 h3 HLN.out
 generalize Bk.stR s t.data.toList = X at HX1 HX2 HA CD
 generalize t.data.toList = l at CFR CD HRN
 obtain ⟨A, u⟩ := X
 unfold Bk.Dsd at CD
 simp only at HX1 HX2 HA CD
 clear hx1 hx2 ha1 ha2 ha3 hr HSTR
 go_enter Tryz.func87, Tryz.ntmps87
 go_wp2_with fail
 with_reducible refine cR.mono ?_
 rintro e w1 ⟨rfl, g1⟩
 have HG1 := Lib.hid g1
 have cfr := CFR.out w1 (HT.out.below g1 HT.out.two)
 clear cR g1
 go_wp2_with fail
 with_reducible refine cfr.mono ?_
 rintro e w2 ⟨rfl, hc2, hT2, g2⟩
 have HB2 := Lib.hid (HG1.out.trans (Ty.below_none g2 HG1.out.size))
 have hbl : w.heap.size ≤ w1.heap.size := HG1.out.size
 have hb2 := hc2.lt
 have hrn := HRN.out w2 w1.heap.size hc2 hT2 (Nat.le_trans HT.out.two hbl)
 clear cfr hc2 hT2 g2
 go_upto_region 4 with (fail)
 obtain ⟨b, hb⟩ : ∃ b, b = w1.heap.size := ⟨_, rfl⟩
 rw [← hb] at hbl hb2 hrn ⊢
 have HB3 : Hid (Below w2.heap.size w2 (w2.alloc (.cells #[.pointer (some ⟨b, 0, none⟩), .bool false] 167))) := Lib.hid ((Below.refl _ _).alloc (Nat.le_refl _) _)
 obtain ⟨r, hr⟩ : ∃ r, r = w2.heap.size := ⟨_, rfl⟩
 rw [← hr] at hrn hb2 ⊢
 generalize w2.alloc _ = w3 at HB3 hrn ⊢
 have HRR := Lib.hid hrn
 have cd := CD.out r b w3 hrn (HB2.out.trans (HB3.out.mono HB2.out.size)) (by rw [hr]; exact HB2.out.size) hbl
 clear hrn hb hr hbl hb2 CD HRN CFR
 go_wp2_with fail
 with_reducible refine cd.mono ?_
 rintro e w4 ⟨q, R, rfl, hR4, hM4, hB4, hq4⟩
 have HMX := Lib.hid (And.intro hM4 hq4)
 have HR4 := Lib.hid hR4
 have HB4 := Lib.hid hB4
 have HW6 : Hid (∀ d ∈ A, d.row.length ≤ 6) := Lib.hid fun d hd => by
  have h1 := HA.out.2.1 d hd
  have h2 := HLN6.out.2
  have h3 := HLN6.out.1
  rw [h1]
  unfold Bk.wdt
  split <;> omega
 have HDS := Lib.hid (hM4.ds HA.out.1 HW6.out)
 have CS := Lib.hid (Bk.psorted_c _ A w4 HDS.out HA.out.2.2)
 have CDN := Lib.hid (Ty.done_c b u.l u.e w4 HR4.out.cur)
 obtain ⟨c0, c1, f0, f1⟩ := Dd.two HR4.out.box
 clear cd hR4 hM4 hB4 hq4
 obtain ⟨l4, e4, wr4⟩ := u
 simp only at HX1 HX2 CDN c0 c1
 cases wr4
 rotate_left
 ·have HE := Lib.hid (HX1.out (.inl rfl))
  go_wp2
  go_ret2
  exact Bk.GotN.bad HE.out rfl HB4.out
 generalize Ty.fin l4 e4 = F at HX1 HX2 CDN
 have HX3 := Lib.hid (HX2.out rfl)
 clear HX2
 by_cases hF : F = 0
 rotate_left
 ·have hFb : ((F : Int) != 0) = true := by rw [bne_iff_ne]; omega
  have HE := Lib.hid (HX1.out (.inr (.inl hF)))
  clear hF
  go_wp2_with fail
  with_reducible refine CDN.out.mono ?_
  rintro e w5 ⟨rfl, rfl⟩
  go_wp2
  go_ret2
  exact Bk.GotN.bad HE.out rfl HB4.out
 have HX4 := Lib.hid (HX3.out hF)
 clear HX3
 subst hF
 simp only [Int.natCast_zero] at CDN
 cases hso : Bk.sorted A
 ·rw [hso] at CS
  have HE := Lib.hid (HX1.out (.inr (.inr hso)))
  clear hso
  go_wp2_with fail
  with_reducible refine CDN.out.mono ?_
  rintro e w5 ⟨rfl, rfl⟩
  go_wp2_with fail
  with_reducible refine CS.out.mono ?_
  rintro e w6 ⟨rfl, g6⟩
  have HB6 := Lib.hid (HB4.out.trans (g6.mono HB4.out.size))
  clear g6
  go_wp2
  go_ret2
  exact Bk.GotN.bad HE.out rfl HB6.out
 ·rw [hso] at CS
  have HE := Lib.hid (HX4.out hso)
  clear hso
  go_wp2_with fail
  with_reducible refine CDN.out.mono ?_
  rintro e w5 ⟨rfl, rfl⟩
  go_wp2_with fail
  with_reducible refine CS.out.mono ?_
  rintro e w6 ⟨rfl, g6⟩
  have HB6 := Lib.hid (HB4.out.trans (g6.mono HB4.out.size))
  have HM6 := Lib.hid (HMX.out.1.kept g6)
  clear g6
  go_wp2
  go_ret2
  exact Bk.GotN.good HE.out ⟨HM6.out, HMX.out.2⟩ HA.out.1 HW6.out HB6.out
end
section
open Go Go.RowKit
def Rn.Rowed (W : World) (m : Bool × (Option Addr × Nat × Nat)) (d : Dd.D) : Prop := ∃ g, m = (d.gone, (some ⟨g, 0, none⟩, d.row.length, d.row.length)) ∧ Cl.Row W g d.row.length (fun k => d.row.getD k Cl.nul)
def Rn.Zoned (W : World) (n : Nat) (F : Nat → Zn.Zo) (m : Option Addr × Nat × Nat) : Prop := ∃ g, m = (some ⟨g, 0, none⟩, n, n) ∧ Rn.ZR W g n F
structure Rn.Ld (B p n : Nat) (A : List Dd.D) (Zf : Nat → Nat → Zn.Zo) (k : Nat) (W : World) (d z : Value) (M : List (Bool × (Option Addr × Nat × Nat))) (Z : List (Option Addr × Nat × Nat)) : Prop where
 blk : W.heap[p]? = some (.cells #[d, z] 92 (0, 0))
 deeds : Dk.Own 41 2 Rn.e2 B W d M
 zones : Dk.Own 108 1 Bk.e1 B W z Z
 len : M.length = A.length
 cnt : Z.length = k
 rows : ∀ (i : Nat) (x : Dd.D), A[i]? = some x → ∃ m, M[i]? = some m ∧ Rn.Rowed W m x
 zrow : ∀ i : Nat, i < k → ∃ m, Z[i]? = some m ∧ Rn.Zoned W n (Zf i) m
theorem Rn.Rowed.same {W W' : World} {m : Bool × (Option Addr × Nat × Nat)} {d : Dd.D} (h : Rn.Rowed W m d) (g : ∀ (b : Nat) (cs : Array Value), W.heap[b]? = some (.cells cs 33 (0, 0)) → W'.heap[b]? = W.heap[b]?) : Rn.Rowed W' m d := by
 obtain ⟨b, h1, h2⟩ := h
 obtain ⟨cs, h3, h4⟩ := id h2
 exact ⟨b, h1, World.rowIs.of_block h2 (g b cs h3)⟩
theorem Rn.Zoned.same {W W' : World} {n : Nat} {F : Nat → Zn.Zo} {m : Option Addr × Nat × Nat} (h : Rn.Zoned W n F m) (g : ∀ (b : Nat) (cs : Array Value), W.heap[b]? = some (.cells cs 68 (0, 0)) → W'.heap[b]? = W.heap[b]?) : Rn.Zoned W' n F m := by
 obtain ⟨b, h1, h2⟩ := h
 obtain ⟨cs, h3, h4⟩ := id h2
 exact ⟨b, h1, h2.kept (g b cs h3)⟩
theorem Rn.blk_lt {W : World} {b : Nat} {o : Obj} (h : W.heap[b]? = some o) : b < W.heap.size := (Array.getElem?_eq_some_iff.1 h).1
theorem Rn.Ld.kept {B p n k : Nat} {A : List Dd.D} {Zf : Nat → Nat → Zn.Zo} {W W' : World} {d z : Value} {M : List (Bool × (Option Addr × Nat × Nat))} {Z : List (Option Addr × Nat × Nat)} (h : Rn.Ld B p n A Zf k W d z M Z) (g : Below W.heap.size W W') : Rn.Ld B p n A Zf k W' d z M Z :=
 ⟨(g.block p (Rn.blk_lt h.blk)).trans h.blk, h.deeds.kept g, h.zones.kept g, h.len, h.cnt, fun i x hx => by
   obtain ⟨m, h1, h2⟩ := h.rows i x hx
   exact ⟨m, h1, h2.same fun b cs hb => g.block b (Rn.blk_lt hb)⟩, fun i hi => by
   obtain ⟨m, h1, h2⟩ := h.zrow i hi
   exact ⟨m, h1, h2.same fun b cs hb => g.block b (Rn.blk_lt hb)⟩⟩
theorem Rn.Ld.cells {B p n k : Nat} {A : List Dd.D} {Zf : Nat → Nat → Zn.Zo} {W : World} {d z : Value} {M : List (Bool × (Option Addr × Nat × Nat))} {Z : List (Option Addr × Nat × Nat)} (h : Rn.Ld B p n A Zf k W d z M Z) :
 W.cell? ⟨p, 0, none⟩ = some d ∧ W.cell? ⟨p, 1, none⟩ = some z ∧ W.frozen? ⟨p, 0, none⟩ = false ∧ W.frozen? ⟨p, 1, none⟩ = false :=
 ⟨by rw [cell_of_row _ _ _ _ _ _ h.blk]; rfl, by rw [cell_of_row _ _ _ _ _ _ h.blk]; rfl, frozen_of_row _ _ 0 _ _ h.blk, frozen_of_row _ _ 1 _ _ h.blk⟩
theorem Rn.off {α : Type} {e T : TypeId} {k : Nat} {enc : α → List Value} {B b : Nat} {W W5 : World} {v v' : Value} {M : List α} {cs : Array Value} (hO : Dk.Own e k enc B W v M) (g : Ty.Grew W W5 v v') (hb : W.heap[b]? = some (.cells cs T (0, 0))) (hT : T ≠ e) : W5.heap[b]? = W.heap[b]? :=
 g.by_.block b (Rn.blk_lt hb) fun h => by
  obtain ⟨cs', hc⟩ := hO.typed b (by first | exact h | exact h.symm)
  rw [hb] at hc
  simp only [Option.some.injEq, Obj.cells.injEq] at hc
  exact hT hc.2.1
theorem Rn.set_other {W : World} {p i b : Nat} (v : Value) (hb : b ≠ p) : (W.setCell ⟨p, i, none⟩ v).heap[b]? = W.heap[b]? := heap_setCell_other W ⟨p, i, none⟩ b v hb
theorem Rn.Ld.stepD {B p n k : Nat} {A K : List Dd.D} {Zf : Nat → Nat → Zn.Zo} {W W5 : World} {d d' z : Value} {M K' : List (Bool × (Option Addr × Nat × Nat))} {Z : List (Option Addr × Nat × Nat)} (h : Rn.Ld B p n A Zf k W d z M Z)
 (ho : Dk.Own 41 2 Rn.e2 B W5 d' (M ++ K')) (hg : Ty.Grew W W5 d d') (hl : K'.length = K.length) (hK : ∀ (i : Nat) (x : Dd.D), K[i]? = some x → ∃ m, K'[i]? = some m ∧ Rn.Rowed W m x) : Rn.Ld B p n (A ++ K) Zf k (W5.setCell ⟨p, 0, none⟩ d') d' z (M ++ K') Z := by
 have tp : ∀ (b : Nat) (cs : Array Value) (T : TypeId), T ≠ 92 → W.heap[b]? = some (.cells cs T (0, 0)) → b ≠ p := fun b cs T hT hb e => by
  subst e
  rw [h.blk] at hb
  simp only [Option.some.injEq, Obj.cells.injEq] at hb
  exact hT hb.2.1.symm
 have keep : ∀ (b : Nat) (cs : Array Value) (T : TypeId), T ≠ 92 → T ≠ 41 → W.heap[b]? = some (.cells cs T (0, 0)) → (W5.setCell ⟨p, 0, none⟩ d').heap[b]? = W.heap[b]? := fun b cs T h1 h2 hb =>
  (Rn.set_other d' (tp b cs T h1 hb)).trans (Rn.off h.deeds hg hb h2)
 have hp5 : W5.heap[p]? = some (.cells #[d, z] 92 (0, 0)) := (Rn.off h.deeds hg h.blk (by decide)).trans h.blk
 refine ⟨?_, ?_, ?_, ?_, h.cnt, fun i x hx => ?_, fun i hi => ?_⟩
 ·exact heap_setCell_same W5 p 0 _ _ _ hp5
 ·refine ho.same fun b hb => Rn.set_other d' fun e => ?_
  obtain ⟨cs, hc⟩ := ho.typed b hb
  rw [e, hp5] at hc
  simp only [Option.some.injEq, Obj.cells.injEq] at hc
  exact absurd hc.2.1 (by decide)
 ·refine h.zones.same fun b hb => ?_
  obtain ⟨cs, hc⟩ := h.zones.typed b hb
  exact keep b cs _ (by decide) (by decide) hc
 ·rw [List.length_append, List.length_append, h.len, hl]
 ·rw [List.getElem?_append] at hx
  rw [List.getElem?_append, h.len]
  split at hx
  ·rename_i hlt
   rw [if_pos hlt]
   obtain ⟨m, h1, h2⟩ := h.rows i x hx
   exact ⟨m, h1, h2.same fun b cs hb => keep b cs _ (by decide) (by decide) hb⟩
  ·rename_i hlt
   rw [if_neg hlt]
   obtain ⟨m, h1, h2⟩ := hK _ x hx
   exact ⟨m, h1, h2.same fun b cs hb => keep b cs _ (by decide) (by decide) hb⟩
 ·obtain ⟨m, h1, h2⟩ := h.zrow i hi
  exact ⟨m, h1, h2.same fun b cs hb => keep b cs _ (by decide) (by decide) hb⟩
theorem Rn.Ld.stepZ {B p n k : Nat} {A : List Dd.D} {Zf : Nat → Nat → Zn.Zo} {W W5 : World} {d z z' : Value} {M : List (Bool × (Option Addr × Nat × Nat))} {Z : List (Option Addr × Nat × Nat)} {m : Option Addr × Nat × Nat} (h : Rn.Ld B p n A Zf k W d z M Z)
 (ho : Dk.Own 108 1 Bk.e1 B W5 z' (Z ++ [m])) (hg : Ty.Grew W W5 z z') (hm : Rn.Zoned W n (Zf k) m) : Rn.Ld B p n A Zf (k + 1) (W5.setCell ⟨p, 1, none⟩ z') d z' M (Z ++ [m]) := by
 have tp : ∀ (b : Nat) (cs : Array Value) (T : TypeId), T ≠ 92 → W.heap[b]? = some (.cells cs T (0, 0)) → b ≠ p := fun b cs T hT hb e => by
  subst e
  rw [h.blk] at hb
  simp only [Option.some.injEq, Obj.cells.injEq] at hb
  exact hT hb.2.1.symm
 have keep : ∀ (b : Nat) (cs : Array Value) (T : TypeId), T ≠ 92 → T ≠ 108 → W.heap[b]? = some (.cells cs T (0, 0)) → (W5.setCell ⟨p, 1, none⟩ z').heap[b]? = W.heap[b]? := fun b cs T h1 h2 hb =>
  (Rn.set_other z' (tp b cs T h1 hb)).trans (Rn.off h.zones hg hb h2)
 have hp5 : W5.heap[p]? = some (.cells #[d, z] 92 (0, 0)) := (Rn.off h.zones hg h.blk (by decide)).trans h.blk
 refine ⟨?_, ?_, ?_, h.len, ?_, fun i x hx => ?_, fun i hi => ?_⟩
 ·exact heap_setCell_same W5 p 1 _ _ _ hp5
 ·refine h.deeds.same fun b hb => ?_
  obtain ⟨cs, hc⟩ := h.deeds.typed b hb
  exact keep b cs _ (by decide) (by decide) hc
 ·refine ho.same fun b hb => Rn.set_other z' fun e => ?_
  obtain ⟨cs, hc⟩ := ho.typed b hb
  rw [e, hp5] at hc
  simp only [Option.some.injEq, Obj.cells.injEq] at hc
  exact absurd hc.2.1 (by decide)
 ·rw [List.length_append, h.cnt]; rfl
 ·obtain ⟨y, h1, h2⟩ := h.rows i x hx
  exact ⟨y, h1, h2.same fun b cs hb => keep b cs _ (by decide) (by decide) hb⟩
 ·rcases Nat.lt_or_ge i k with h1 | h1
  ·obtain ⟨y, h2, h3⟩ := h.zrow i h1
   exact ⟨y, by rw [List.getElem?_append_left (by rw [h.cnt]; exact h1)]; exact h2, h3.same fun b cs hb => keep b cs _ (by decide) (by decide) hb⟩
  ·obtain rfl : i = k := by omega
   exact ⟨m, by rw [List.getElem?_append_right (by rw [h.cnt]; exact Nat.le_refl _), h.cnt, Nat.sub_self]; rfl, hm.same fun b cs hb => keep b cs _ (by decide) (by decide) hb⟩
theorem Rn.Ld.done {B p : Nat} {s : List Kn.C} {L : List Dd.D} {Zf : Nat → Nat → Zn.Zo} {W : World} {d z : Value} {M : List (Bool × (Option Addr × Nat × Nat))} {Z : List (Option Addr × Nat × Nat)} (h : Rn.Ld B p s.length L Zf (Rn.nb L.length) W d z M Z)
 (hl : L ≠ []) (h6 : ∀ x ∈ L, x.row.length ≤ 6) (hz : ∀ i j, i < Rn.nb L.length → j < s.length → Zf i j = Rn.zone s L i j) : Rn.P W p s L := by
 obtain ⟨c0, c1, _⟩ := h.cells
 refine ⟨Rn.blk_lt h.blk, d, z, c0, c1, ?_, ?_⟩
 ·rcases h.deeds.form with ⟨_, h0⟩ | ⟨g, c, rfl, h1, h2, _, h4⟩
  ·have := h.len
   rw [h0] at this
   exact absurd (List.eq_nil_of_length_eq_zero this.symm) hl
  ·refine ⟨_, c, by rw [h.len], by rw [← h.len]; exact h1, by unfold maxLen at h2; omega, .inr ⟨g, 0, rfl, h4, fun i x hx => ?_⟩⟩
   obtain ⟨m, hm, b, rfl, hr⟩ := h.rows i x hx
   have e0 := h.deeds.cell Rn.e2_len rfl hm (j := 0) (by decide)
   have e1 := h.deeds.cell Rn.e2_len rfl hm (j := 1) (by decide)
   rw [Nat.zero_add]
   exact ⟨_, e0, e1, hr.vals rfl (fun k v hk => by rw [List.getD_eq_getElem?_getD, hk]; rfl) (by have := h6 x (List.mem_of_getElem? hx); omega)⟩
 ·rcases h.zones.form with ⟨_, h0⟩ | ⟨g, c, rfl, h1, h2, _, h4⟩
  ·have := h.cnt
   rw [h0] at this
   have := List.length_pos_iff.2 hl
   unfold Rn.nb at *
   simp at *
   omega
  ·refine ⟨g, c, by rw [h.cnt], h4, fun i hi => ?_⟩
   obtain ⟨m, hm, b, rfl, hr⟩ := h.zrow i hi
   have e0 := h.zones.cell Bk.e1_len rfl hm (j := 0) (by decide)
   rw [Nat.mul_one, Nat.add_zero] at e0
   exact ⟨b, e0, hr.congr fun j hj => hz i j hi hj⟩
theorem Rn.Ld.start (w : World) (n : Nat) (Zf : Nat → Nat → Zn.Zo) (B : Nat) : Rn.Ld B w.heap.size n [] Zf 0 (w.alloc (.cells #[.slice none 0 0, .slice none 0 0] 92)) (.slice none 0 0) (.slice none 0 0) [] [] :=
 ⟨heap_alloc_new w _, Dk.Own.nil _ _, Dk.Own.nil _ _, rfl, rfl, fun i x hx => by simp at hx, fun i hi => by omega⟩
end
section
open Go Go.RowKit
theorem Rn.infoZ : (Tryz.prog.info? 108).map (fun i => (i.zero, i.size, i.bytes)) = some (some (.slice none 0 0), 1, 24) := by kernel_rfl
theorem Rn.own_form {α : Type} {e : TypeId} {k : Nat} {enc : α → List Value} {B : Nat} {W : World} {v : Value} {M : List α} (h : Dk.Own e k enc B W v M) : ∃ a c, v = .slice a M.length c := by
 rcases h.form with ⟨e, e0⟩ | ⟨g, c, e, _⟩
 ·exact ⟨none, 0, by rw [e, e0]; rfl⟩
 ·exact ⟨_, c, e⟩
theorem Rn.own_form3 {α : Type} {e : TypeId} {k : Nat} {enc : α → List Value} {B : Nat} {W : World} {v : Value} {M : List α} (h : Dk.Own e k enc B W v M) : ∃ a n c, v = .slice a n c := by
 obtain ⟨a, c, e⟩ := Rn.own_form h
 exact ⟨a, _, c, e⟩
def Rn.mk (K : List Dd.D) (R : Nat → Option Addr × Nat × Nat) : List (Bool × (Option Addr × Nat × Nat)) := (List.range K.length).map fun j => ((K.getD j Bk.nod).gone, R j)
theorem Rn.mk_len (K : List Dd.D) (R : Nat → Option Addr × Nat × Nat) : (Rn.mk K R).length = K.length := by unfold Rn.mk; simp
theorem Rn.mk_at {K : List Dd.D} {R : Nat → Option Addr × Nat × Nat} {j : Nat} {d : Dd.D} (h : K[j]? = some d) : (Rn.mk K R)[j]? = some (d.gone, R j) := by
 unfold Rn.mk
 rw [List.getElem?_map, List.getElem?_range (List.getElem?_eq_some_iff.1 h).1]
 simp only [Option.map_some, List.getD_eq_getElem?_getD, h, Option.getD_some]
theorem Rn.mk_src {q : Nat} {W : World} {R : Nat → Option Addr × Nat × Nat} {K : List Dd.D} (h : Bk.Mx q W R K) : Dk.Src Rn.e2 W (.slice (some ⟨q, 0, none⟩) K.length K.length) (Rn.mk K R) := by
 refine .inr ⟨_, K.length, by rw [Rn.mk_len], Dk.src_cells Rn.e2_len (by decide) fun i j x hx hj => ?_⟩
 have hi : i < K.length := by
  have := (List.getElem?_eq_some_iff.1 hx).1
  rwa [Rn.mk_len] at this
 have hk := List.getElem?_eq_getElem hi
 rw [Rn.mk_at hk] at hx
 obtain rfl := Option.some.inj hx
 obtain ⟨c0, c1⟩ := h.cells hk
 rw [Nat.zero_add]
 rcases (by omega : j = 0 ∨ j = 1) with rfl | rfl
 ·exact c0
 ·exact c1
theorem Rn.mk_rows {q : Nat} {W : World} {R : Nat → Option Addr × Nat × Nat} {K : List Dd.D} (h : Bk.Mx q W R K) : ∀ (i : Nat) (x : Dd.D), K[i]? = some x → ∃ m, (Rn.mk K R)[i]? = some m ∧ Rn.Rowed W m x := fun i x hx => by
 obtain ⟨g, h1, _, h2⟩ := h.rows i x hx
 exact ⟨_, Rn.mk_at hx, g, by rw [h1], h2⟩
def Rn.Added (B p n : Nat) (A : List Dd.D) (Zf : Nat → Nat → Zn.Zo) (k : Nat) (w : World) (e : Ending) (w' : World) : Prop :=
 e = .returned (.bool true) ∧ (∃ d z M Z, Rn.Ld B p n A Zf k w' d z M Z) ∧ Below B w w'
set_option maxHeartbeats 8000000 in
set_option maxRecDepth 100000 in
theorem Rn.add_c (vs : Value) (s : List Kn.C) (t : ByteArray) {w : World} {B p k : Nat} {A K : List Dd.D} {Zf : Nat → Nat → Zn.Zo} {d z : Value} {M : List (Bool × (Option Addr × Nat × Nat))} {Z : List (Option Addr × Nat × Nat)} (hT : Ty.Tabs w) (hs : Kn.Cols w vs s) (ht : t.size ≤ 140737488351232)
 (h : Rn.Ld B p s.length A Zf k w d z M Z) (hB : B ≤ p) (hrd : Bk.rd s t.data.toList = (0, K)) (hK : K ≠ []) (hmod : A.length % 8 = 0) (hr : Kn.right s = true) (hf : ∀ x ∈ K, Dd.fitE s x = 0) (hz : Bk.Zs K) (hZ : ∀ j, Zf k j = Zn.of (Bk.col K j)) (hA : A.length ≤ 1048576) (hk : k ≤ 1048576) :
 Calls Tryz.prog 60 #[.pointer (some ⟨p, 0, none⟩), vs, .string t] w (Rn.Added B p s.length (A ++ K) Zf (k + 1) w) := by
 have cr := Bk.pread_c vs s t w hT hs ht
 rw [hrd] at cr
 unfold Bk.GotN at cr
 simp only [Int.natCast_zero] at cr
 have H := Lib.hid h
 have HP : Hid (p < w.heap.size ∧ B ≤ p ∧ ∀ b, d.ownBlock = some b → b < w.heap.size) := Lib.hid ⟨Rn.blk_lt h.blk, hB, h.deeds.lt⟩
 have H6 := Lib.hid (Kn.right_len hr)
 have CZ := Lib.hid fun (v : Value) (wz : World) (h8 : K.length ≤ 8) (hv : Bk.Ds wz v K) => Rn.zonesOf_c v K s.length h8 H6.out.2 (fun x hx i hi => Rn.has_len H6.out.1 (hf x hx) hi) hz wz hv
 have HZ : Hid (∀ j, Zf k j = Zn.of (Bk.col K j)) := Lib.hid hZ
 have HA := Lib.hid (And.intro hA hk)
 have HK := Lib.hid hK
 obtain ⟨sa, sc, rfl, -⟩ := hs
 obtain ⟨da, dc, rfl⟩ := Rn.own_form h.deeds
 obtain ⟨za, zc, rfl⟩ := Rn.own_form h.zones
 have hlen := h.len
 have hcnt := h.cnt
 have hmI : (M.length : Int) % 8 = 0 := by omega
 have HL := Lib.hid (And.intro hlen hcnt)
 clear h hB hrd hK hmod hr hf hz hZ hA hk hT ht hlen hcnt
 go_enter Tryz.func60, Tryz.ntmps60
 go_wp2_with fail
 with_reducible refine cr.mono ?_
 rintro e w1 ⟨v, rfl, hv, g1⟩
 rcases hv with ⟨h0, _⟩ | ⟨q, R, rfl, hM, hq, h8, h6⟩
 ·exact absurd h0 HK.out
 have H1 := Lib.hid (H.out.kept g1)
 have HG1 := Lib.hid g1
 have HMX := Lib.hid (And.intro hM (And.intro hq (And.intro h8 h6)))
 have HS := Lib.hid (Rn.mk_src hM)
 have HRW := Lib.hid (Rn.mk_rows hM)
 have HKL : Hid ((Rn.mk K R).length = K.length) := Lib.hid (Rn.mk_len K R)
 generalize Rn.mk K R = K' at HS HRW HKL
 obtain ⟨c0, c1, f0, f1⟩ := H1.out.cells
 clear cr hM hq h8 h6 g1
 go_wp2_with (at_builtin; refine Dk.wpList_append 23 _ 32 Tryz.underlying23 Rn.infoD rfl (by decide) Rn.e2_len Rn.e2_one K' H1.out.deeds (by have := HG1.out.size; have := HP.out; omega) (by have := HL.out; have := HA.out; have := HKL.out; have := HMX.out; omega) (by have := HL.out; have := HA.out; have := HKL.out; have := HMX.out; omega) HS.out (.tmp 30) (.tmp 31) rfl rfl rfl rfl ?_; intro v5 w5 h5 g5; obtain ⟨d5a, d5n, d5c, hv5⟩ := Rn.own_form3 h5; have hp5 := (Rn.off H1.out.deeds g5 H1.out.blk (by decide)).trans H1.out.blk; have d0 := cell_of_row _ _ 0 _ _ _ hp5; have k0 := frozen_of_row _ _ 0 _ _ hp5; simp only [List.getElem?_toArray, List.getElem?_cons_zero] at d0; have H5 := Lib.hid (And.intro h5 g5); clear h5 g5 hp5; subst hv5)
 obtain ⟨w6, hw6⟩ : ∃ w6, w6 = w5.setCell ⟨p, 0, none⟩ (.slice d5a d5n d5c) := ⟨_, rfl⟩
 rw [← hw6]
 have hL6 := H1.out.stepD H5.out.1 H5.out.2 HKL.out HRW.out
 rw [← hw6] at hL6
 have HM6 : Hid (Bk.Mx q w6 R K) := Lib.hid (HMX.out.1.same fun b hqb hb => by
  have hwq := HMX.out.2.1
  have hpw := HP.out
  rw [hw6]
  refine (Rn.set_other _ (by omega)).trans (H5.out.2.by_.block b hb fun e => ?_)
  have := hpw.2.2 b (by first | exact e | exact e.symm)
  omega)
 have HB6 : Hid (Below B w w6) := Lib.hid (by
  rw [hw6]
  have hpw := HP.out
  exact ((HG1.out.mono (by omega)).trans (H5.out.2.below (by have := HG1.out.size; omega) H1.out.deeds.base_le)).setCell (p := ⟨p, 0, none⟩) hpw.2.1 _)
 have HL6 := Lib.hid hL6
 have cz := CZ.out _ w6.drew HMX.out.2.2.1 ((HM6.out.ds HMX.out.2.2.1 HMX.out.2.2.2).later (Below.refl _ w6).drew)
 obtain ⟨_, x1, _, y1⟩ := hL6.cells
 have z1 : w6.drew.cell? ⟨p, 1, none⟩ = some (.slice za Z.length zc) := x1
 have HB6s : Hid (B ≤ w6.heap.size) := Lib.hid (by have := HB6.out.size; have := HP.out; omega)
 have HZL : Hid (Z.length + 1 ≤ 1048577) := Lib.hid (by have := HL.out; have := HA.out; omega)
 clear hL6 hw6 c0 c1 f0 f1 d0 k0 x1 y1 CZ
 go_region_law (first
  | (go_simp; go_at_call 88; (with_reducible refine cz.mono ?_); rintro e w7 ⟨g, rfl, hg, hzr, g7⟩
     have HZR := Lib.hid hzr
     have HG7 : Hid (Below w6.heap.size w6 w7) := Lib.hid ((Below.refl _ w6).drew.trans g7)
     have HL7 := Lib.hid (HL6.out.kept HG7.out)
     have HAL : Hid (Below w7.heap.size w7 (w7.alloc (.cells #[.slice (some ⟨g, 0, none⟩) s.length s.length] 108))) := Lib.hid ((Below.refl _ w7).alloc (Nat.le_refl _) _)
     have HL8 := Lib.hid (HL7.out.kept HAL.out)
     have z1 := HL7.out.cells.2.1
     have z2 := HL8.out.cells.2.1
     clear hg hzr g7)
  | (refine Dk.step_appendB (enc := Bk.e1) 90 _ 24 Tryz.underlying90 Rn.infoZ rfl (by decide) Bk.e1_len Bk.e1_one [((some ⟨g, 0, none⟩ : Option Addr), s.length, s.length)] (base := B) (Nat.le_trans HB6s.out (Nat.le_trans HG7.out.size HAL.out.size)) HL8.out.zones (by have := HZL.out; simp only [List.length_singleton]; omega) (by have := HZL.out; simp only [List.length_singleton]; omega) _ _ _ (by rfl) (by rfl) (by rfl) (by rfl) (Dk.src_cell (Dk.cell_new rfl)) ?_; intro v9 w9 o9 g9
     obtain ⟨z9a, z9n, z9c, hv9⟩ := Rn.own_form3 o9
     have hp9 := (Rn.off HL8.out.zones g9 HL8.out.blk (by decide)).trans HL8.out.blk
     have d9 := cell_of_row _ _ 1 _ _ _ hp9
     have k9 := frozen_of_row _ _ 1 _ _ hp9
     simp only [List.getElem?_toArray, List.getElem?_cons_zero, List.getElem?_cons_succ] at d9
     have H9 := Lib.hid (And.intro o9 g9)
     clear o9 g9 hp9
     subst hv9))
 all_goals
  have HE : Hid (∃ d z M Z, Rn.Ld B p s.length (A ++ K) Zf (k + 1) (w9.setCell ⟨p, 1, none⟩ (.slice z9a z9n z9c)) d z M Z) := Lib.hid ⟨_, _, _, _, HL8.out.stepZ H9.out.1 H9.out.2 ⟨g, rfl, (HZR.out.kept (HAL.out.block g HZR.out.lt)).congr fun j _ => (HZ.out j).symm⟩⟩
  have HEB : Hid (Below B w (w9.setCell ⟨p, 1, none⟩ (.slice z9a z9n z9c))) := Lib.hid (by
   have h1 := HB6.out
   have h2 := HG7.out
   have h3 := HAL.out
   have h4 := HB6s.out
   have hpw := HP.out
   exact (((h1.trans (h2.mono h4)).trans (h3.mono (Nat.le_trans h4 h2.size))).trans (H9.out.2.below (Nat.le_trans h4 (Nat.le_trans h2.size h3.size)) HL8.out.zones.base_le)).setCell (p := ⟨p, 1, none⟩) hpw.2.1 _)
  go_wp2
  go_ret
  exact ⟨rfl, HE.out, HEB.out⟩
end
section
open Go.RowKit
def Fr.Mid (l : List UInt8) (a : Nat) (L : List Fr.Str) : Prop :=
 a ≤ l.length ∧ 8 * L.length ≤ a ∧ Fr.scan l = if (Fr.scan (l.drop a)).1 ≠ 0 then (8, [], 0) else (0, L ++ (Fr.scan (l.drop a)).2.1, a + (Fr.scan (l.drop a)).2.2)
theorem Fr.Mid.start (l : List UInt8) : Fr.Mid l 0 [] := by
 refine ⟨Nat.zero_le _, by simp, ?_⟩
 rw [List.drop_zero]
 rcases Fr.scan_err l with e | e
 ·rw [if_neg (by rw [e]; simp)]
  exact Prod.ext e (Prod.ext (by simp) (by simp))
 ·rw [e]; rfl
theorem Fr.Mid.short {l : List UInt8} {a : Nat} {L : List Fr.Str} (h : Fr.Mid l a L) (h4 : (l.drop a).length < 4) : Fr.scan l = (0, L, a) := by
 rw [h.2.2, Fr.scan_is (l.drop a), if_pos h4]
 simp
theorem Fr.Mid.big {l : List UInt8} {a : Nat} {L : List Fr.Str} (h : Fr.Mid l a L) (h4 : ¬ (l.drop a).length < 4) (hb : 1048576 < Fr.val ((l.drop a).take 4)) : Fr.scan l = (8, [], 0) := by
 rw [h.2.2, Fr.scan_is (l.drop a), if_neg h4, if_pos hb]
 rfl
theorem Fr.Mid.torn {l : List UInt8} {a : Nat} {L : List Fr.Str} (h : Fr.Mid l a L) (h4 : ¬ (l.drop a).length < 4) (hb : ¬ 1048576 < Fr.val ((l.drop a).take 4)) (ht : (l.drop a).length < Fr.val ((l.drop a).take 4) + 8) : Fr.scan l = (0, L, a) := by
 rw [h.2.2, Fr.scan_is (l.drop a), if_neg h4, if_neg hb, if_pos ht]
 simp
theorem Fr.Mid.wrong {l : List UInt8} {a : Nat} {L : List Fr.Str} (h : Fr.Mid l a L) (h4 : ¬ (l.drop a).length < 4) (hb : ¬ 1048576 < Fr.val ((l.drop a).take 4)) (ht : ¬ (l.drop a).length < Fr.val ((l.drop a).take 4) + 8)
 (hs : Fr.val (((l.drop a).drop (4 + Fr.val ((l.drop a).take 4))).take 4) ≠ Fr.sum (((l.drop a).drop 4).take (Fr.val ((l.drop a).take 4)))) : Fr.scan l = (8, [], 0) := by
 rw [h.2.2, Fr.scan_is (l.drop a), if_neg h4, if_neg hb, if_neg ht, if_pos hs]
 rfl
theorem Fr.Mid.next {l : List UInt8} {a : Nat} {L : List Fr.Str} (h : Fr.Mid l a L) (h4 : ¬ (l.drop a).length < 4) (hb : ¬ 1048576 < Fr.val ((l.drop a).take 4)) (ht : ¬ (l.drop a).length < Fr.val ((l.drop a).take 4) + 8)
 (hs : Fr.val (((l.drop a).drop (4 + Fr.val ((l.drop a).take 4))).take 4) = Fr.sum (((l.drop a).drop 4).take (Fr.val ((l.drop a).take 4)))) : Fr.Mid l (a + (Fr.val ((l.drop a).take 4) + 8)) (L ++ [((l.drop a).drop 4).take (Fr.val ((l.drop a).take 4))]) := by
 have hlen : (l.drop a).length = l.length - a := List.length_drop
 refine ⟨by omega, by rw [List.length_append, List.length_singleton]; have := h.2.1; omega, ?_⟩
 have e := Fr.scan_is (l.drop a)
 rw [if_neg h4, if_neg hb, if_neg ht, if_neg (fun h => h hs), show (l.drop a).drop (Fr.val ((l.drop a).take 4) + 8) = l.drop (a + (Fr.val ((l.drop a).take 4) + 8)) from List.drop_drop] at e
 rw [h.2.2, e]
 generalize Fr.scan (l.drop (a + (Fr.val ((l.drop a).take 4) + 8))) = q
 generalize Fr.val ((l.drop a).take 4) = N
 by_cases h5 : q.1 ≠ 0
 ·simp [h5]
 ·have h6 : q.1 = 0 := by simpa using h5
  simp [h6, Nat.add_assoc]
def Fr.Got (w : World) (r : Nat × List Fr.Str × Nat) (e : Ending) (w' : World) : Prop :=
 ∃ v, e = .returned (.tuple #[v, .int .i64 ((r.2.2 : Nat) : Int), .int .i64 ((r.1 : Nat) : Int)]) ∧ Tx.At w'.heap.size w' v r.2.1 ∧ Below w.heap.size w w'
theorem Fr.Got.bad {w w' : World} {r : Nat × List Fr.Str × Nat} (hr : r = (8, [], 0)) (g : Below w.heap.size w w') : Fr.Got w r (.returned (.tuple #[.slice none 0 0, .int .i64 0, .int .i64 8])) w' :=
 ⟨_, by rw [hr]; rfl, by rw [hr]; exact Tx.At.nil _, g⟩
theorem Fr.Got.good {w w' : World} {r : Nat × List Fr.Str × Nat} {v : Value} {L : List Fr.Str} {a : Nat} (hr : r = (0, L, a)) (h : Tx.At w'.heap.size w' v L) (g : Below w.heap.size w w') : Fr.Got w r (.returned (.tuple #[v, .int .i64 (a : Int), .int .i64 0])) w' :=
 ⟨_, by rw [hr]; rfl, by rw [hr]; exact h, g⟩
theorem Fr.ext_at (s : ByteArray) (a b : Nat) : s.extract a b = Ty.S ((s.data.toList.drop a).take (b - a)) := Ty.extract_S s a b
end
section
open Go.RowKit
end
section
open Go.RowKit
def Fr.all (l : List UInt8) : Nat × List Fr.Str := if (Fr.scan l).1 ≠ 0 then ((Fr.scan l).1, []) else if (Fr.scan l).2.2 < l.length then (2, []) else (0, (Fr.scan l).2.1)
def Fr.GotA (w : World) (r : Nat × List Fr.Str) (e : Ending) (w' : World) : Prop :=
 ∃ v, e = .returned (.tuple #[v, .int .i64 ((r.1 : Nat) : Int)]) ∧ Tx.At w'.heap.size w' v r.2 ∧ Below w.heap.size w w'
theorem Fr.GotA.bad {w w' : World} {r : Nat × List Fr.Str} {e : Nat} (hr : r = (e, [])) (g : Below w.heap.size w w') : Fr.GotA w r (.returned (.tuple #[.slice none 0 0, .int .i64 (e : Int)])) w' :=
 ⟨_, by rw [hr], by rw [hr]; exact Tx.At.nil _, g⟩
theorem Fr.GotA.good {w w' : World} {r : Nat × List Fr.Str} {v : Value} {L : List Fr.Str} (hr : r = (0, L)) (h : Tx.At w'.heap.size w' v L) (g : Below w.heap.size w w') : Fr.GotA w r (.returned (.tuple #[v, .int .i64 0])) w' :=
 ⟨_, by rw [hr]; rfl, by rw [hr]; exact h, g⟩
theorem Fr.scan_le (l : List UInt8) : (Fr.scan l).2.2 ≤ l.length := by
 rcases Fr.scan_err l with h | h
 ·exact Fr.scan_end l.length l (Nat.le_refl _) h
 ·rw [h]; exact Nat.zero_le _
end
section
open Go.RowKit
def Fr.half (j : Nat) : Value := .int .u32 ((Fr.Tn 4 j : Nat) : Int)
theorem Fr.nib (r : Nat) : Fr.Tn 4 r = r / 16 ^^^ Fr.Tn 4 (r % 16) := Fr.Tn_split 4 r
theorem Fr.Tn8 (r : Nat) : Fr.Tn 8 r = Fr.Tn 4 (Fr.Tn 4 r) := Fr.Tn_add 4 4 r
theorem Fr.nib_eq {X Y Z : Nat} (hX : X < 4294967296) (hY : Y = X / 16) (hZ : Z = X % 16) : bits .xor .u32 (Y : Int) ((Fr.Tn 4 Z : Nat) : Int) = ((Fr.Tn 4 X : Nat) : Int) := by
 have h : bits .xor .u32 (Y : Int) ((Fr.Tn 4 Z : Nat) : Int) = ((Y ^^^ Fr.Tn 4 Z : Nat) : Int) := u32_xor_nat _ _ (by omega) (Fr.Tn_lt (by omega))
 rw [h, hY, hZ, ← Fr.nib]
def Fr.zeros : Array Value := #[.int .u32 0, .int .u32 0, .int .u32 0, .int .u32 0, .int .u32 0, .int .u32 0, .int .u32 0, .int .u32 0, .int .u32 0, .int .u32 0, .int .u32 0, .int .u32 0, .int .u32 0, .int .u32 0, .int .u32 0, .int .u32 0]
def Fr.Tab (w : World) (g : Nat) : Prop := g < w.heap.size ∧ ∀ j, j < 16 → w.cell? ⟨g, j, none⟩ = some (.int .u32 ((Fr.Tn 4 j : Nat) : Int))
theorem Fr.Tab.kept {w w' : World} {g : Nat} (h : Fr.Tab w g) (b : Below w.heap.size w w') : Fr.Tab w' g := by
 refine ⟨Nat.lt_of_lt_of_le h.1 b.size, fun j hj => ?_⟩
 have := h.2 j hj
 unfold World.cell? at this ⊢
 rw [b.block g h.1]
 exact this
set_option maxHeartbeats 1000000 in
set_option maxRecDepth 100000 in
theorem Fr.half_c (g X : Nat) (hX : X < 4294967296) (w : World) (hT : Fr.Tab w g) :
 Calls Tryz.prog 146 #[.pointer (some ⟨g, 0, none⟩), .int .u32 (X : Int)] w fun e w' => e = .returned (.int .u32 ((Fr.Tn 4 X : Nat) : Int)) ∧ w' = w := by
 obtain ⟨Y, hY⟩ : ∃ Y, Y = X / 16 := ⟨_, rfl⟩
 obtain ⟨Z, hZ⟩ : ∃ Z, Z = X % 16 := ⟨_, rfl⟩
 have hd : (X : Int) / 16 = (Y : Int) := by omega
 have ha : bits .and .u32 (X : Int) 15 = (Z : Int) := by
  have := u32_and_nat X 15 hX (by decide)
  refine this.trans ?_
  rw [hZ, show (15 : Nat) = 2 ^ 4 - 1 from rfl, Nat.and_two_pow_sub_one_eq_mod]
 have hZ16 : Z < 16 := by omega
 have hZi : (Z : Int) < 16 := by omega
 have hZ0 : (0 : Int) ≤ (Z : Int) := by omega
 have c0 := hT.2 Z hZ16
 have hn := Fr.nib_eq hX hY hZ
 generalize Fr.Tn 4 Z = U at c0 hn
 generalize Fr.Tn 4 X = X1 at hn ⊢
 clear hY hZ hT
 go_enter Tryz.func146, Tryz.ntmps146
 go_wp2
 go_ret
 exact ⟨rfl, rfl⟩
set_option maxHeartbeats 1000000 in
set_option maxRecDepth 100000 in
theorem Fr.steps_c (w : World) : Calls Tryz.prog 110 #[] w fun e w' => ∃ g, e = .returned (.pointer (some ⟨g, 0, none⟩)) ∧ Fr.Tab w' g ∧ Below w.heap.size w w' := by
 have hb2 : Below w.heap.size w (w.alloc (.cells Fr.zeros 191)) := (Below.refl _ w).alloc (Nat.le_refl _) _
 have h1 : (w.alloc (.cells Fr.zeros 191)).rowIs w.heap.size 191 16 (Bt.upTo 0 Fr.half (.int .u32 0)) := by
  refine ⟨Fr.zeros, heap_alloc_new w (.cells Fr.zeros 191), rfl, fun i hi => ?_⟩
  have e : Bt.upTo 0 Fr.half (.int .u32 0) i = .int .u32 0 := by unfold Bt.upTo; rw [if_neg (by omega)]
  rw [e]
  rcases (by omega : i = 0 ∨ i = 1 ∨ i = 2 ∨ i = 3 ∨ i = 4 ∨ i = 5 ∨ i = 6 ∨ i = 7 ∨ i = 8 ∨ i = 9 ∨ i = 10 ∨ i = 11 ∨ i = 12 ∨ i = 13 ∨ i = 14 ∨ i = 15) with rfl | rfl | rfl | rfl | rfl | rfl | rfl | rfl | rfl | rfl | rfl | rfl | rfl | rfl | rfl | rfl <;> rfl
 have HLT : Hid (∀ j k, k < 16 → Fr.Tn j k < 4294967296) := Lib.hid fun j k hk => Fr.Tn_lt (by omega)
 have HB2 := Lib.hid hb2
 have H1 := Lib.hid h1
 clear hb2 h1
 go_enter Tryz.func110, Tryz.ntmps110
 go_wp2
 change Code.wp _ _ _ _ (w.alloc (.cells Fr.zeros 191))
 generalize w.alloc (.cells Fr.zeros 191) = w2 at HB2 H1 ⊢
 go_loopw [7] (fun i wr => ∃ k : Nat, k ≤ 16 ∧ i = .int .i64 k ∧ wr.rowIs w.heap.size 191 16 (Bt.upTo k Fr.half (.int .u32 0)) ∧ Below w.heap.size w wr) (fun i _ => 16 - (intOf i).toNat)
 case atStart => exact ⟨0, by omega, rfl, H1.out, HB2.out⟩
 case round =>
  obtain ⟨k, hk, rfl, hR, hB⟩ := hrel
  have HR := Lib.hid hR
  have HB := Lib.hid hB
  clear hR hB HB2 H1
  have hk0 : (0 : Int) ≤ (k : Int) := by omega
  by_cases hl : k < 16
  ·have hki : (k : Int) < 16 := by omega
   have HTL : Hid (∀ j, Fr.Tn j k < 4294967296) := Lib.hid fun j => HLT.out j k hl
   have HHF : Hid (Fr.half k = .int .u32 ((Fr.Tn 4 k : Nat) : Int)) := Lib.hid rfl
   go_wp2_with fail
   go_loop [3, 4, 12] (fun r o j => ∃ i : Nat, i ≤ 4 ∧ j = .int .i64 i ∧ r = .int .u32 (Fr.Tn i k : Nat)) (fun _ _ j => 4 - (intOf j).toNat)
   case atStart => exact ⟨0, by omega, rfl, rfl⟩
   case round =>
    obtain ⟨i, hi, rfl, rfl⟩ := hrel
    have hi0 : (0 : Int) ≤ (i : Int) := by omega
    by_cases hi4 : i < 4
    ·have hii : (i : Int) < 4 := by omega
     have hT := HTL.out i
     have HTN := Lib.hid (Fr.Tn_last i k)
     generalize Fr.Tn i k = Y at hT HTN ⊢
     obtain ⟨Z, hZ⟩ : ∃ Z, Z = Y / 2 := ⟨_, rfl⟩
     have hd : (Y : Int) / 2 = (Z : Int) := by omega
     have hZl : Z < 4294967296 := by omega
     have hand : bits .and .u32 (Y : Int) 1 = ((Y % 2 : Nat) : Int) := by
      have := u32_and_nat Y 1 hT (by decide)
      rwa [Nat.and_one_is_mod] at this
     rcases Nat.mod_two_eq_zero_or_one Y with hm | hm
     ·rw [hm] at hand
      have HE := Lib.hid (HTN.out.trans (Fr.T_even hm))
      rw [← hZ] at HE
      clear hZ hm
      go_wp2
      go_round
      case rel => exact ⟨i + 1, by omega, by simp, by rw [HE.out]⟩
      case measure => simp [intOf]; omega
     ·rw [hm] at hand
      have HE := Lib.hid (HTN.out.trans (Fr.T_odd hm))
      rw [← hZ] at HE
      have hx2 : bits .xor .u32 (Z : Int) 2197175160 = ((Z ^^^ 2197175160 : Nat) : Int) := u32_xor_nat Z 2197175160 hZl (by decide)
      clear hZ hm
      go_wp2
      go_round
      case rel => exact ⟨i + 1, by omega, by simp, by rw [HE.out]⟩
      case measure => simp [intOf]; omega
    ·obtain rfl : i = 4 := by omega
     have c0 := HR.out.cell hl
     have f0 := HR.out.frozen k
     go_wp2
     go_roundw
     case rel => exact ⟨k + 1, by omega, by simp, Bt.upTo_next HR.out rfl, HB.out.trans (Bt.below_set (Nat.le_refl _) _)⟩
     case measure => simp [intOf]; omega
  ·obtain rfl : k = 16 := by omega
   have hall : Fr.Tab wr w.heap.size := ⟨HR.out.lt, fun j hj => by
    have hc := HR.out.cell hj
    rw [hc]
    unfold Bt.upTo
    rw [if_pos hj]
    rfl⟩
   have HA := Lib.hid hall
   clear hall
   have h16 : (16 : Int) < 16 ↔ False := by simp
   go_wp2
   go_ret
   exact ⟨_, rfl, HA.out, HB.out⟩
end
section
open Go.RowKit
set_option maxHeartbeats 1000000 in
set_option maxRecDepth 100000 in
theorem Fr.tsum_c (g : Nat) (s : ByteArray) (hs : s.size ≤ 140737488355328) (w : World) (hT : Fr.Tab w g) :
 Calls Tryz.prog 131 #[.pointer (some ⟨g, 0, none⟩), .string s] w fun e w' => e = .returned (.int .u32 ((Fr.sum s.data.toList : Nat) : Int)) ∧ w' = w := by
 have HS := Lib.hid hs
 have HST : Hid (∀ k (h : k < s.size), Fr.reg Fr.ones (s.data.toList.take (k + 1)) = Fr.Tn 8 (Fr.reg Fr.ones (s.data.toList.take k) ^^^ (s[k]).toNat)) := Lib.hid fun k h => Fr.reg_step h _
 have HLT : Hid (∀ l, Fr.reg Fr.ones l < 4294967296) := Lib.hid fun l => Fr.reg_lt l Fr.ones (by decide)
 have HC : Hid (∀ X : Nat, X < 4294967296 → Calls Tryz.prog 146 #[.pointer (some ⟨g, 0, none⟩), .int .u32 (X : Int)] w fun e w' => e = .returned (.int .u32 ((Fr.Tn 4 X : Nat) : Int)) ∧ w' = w) := Lib.hid fun X hX => Fr.half_c g X hX w hT
 clear hs hT
 go_enter Tryz.func131, Tryz.ntmps131
 go_wp2
 go_loop [5, 6, 9] (fun r x i => ∃ k : Nat, k ≤ s.size ∧ i = .int .i64 k ∧ r = .int .u32 (Fr.reg Fr.ones (s.data.toList.take k) : Nat)) (fun _ _ i => s.size - (intOf i).toNat)
 case atStart => exact ⟨0, by omega, rfl, rfl⟩
 case round =>
  obtain ⟨k, hk, rfl, rfl⟩ := hrel
  have hk0 : (0 : Int) ≤ (k : Int) := by omega
  have hr := HLT.out (s.data.toList.take k)
  by_cases hl : k < s.size
  ·have hki : (k : Int) < (s.size : Int) := by omega
   have hks : (k : Int) < 9223372036854775807 := by have := HS.out; omega
   have HN := Lib.hid (HST.out k hl)
   have hb := (s[k]).toNat_lt
   generalize Fr.reg Fr.ones (s.data.toList.take k) = R at hr HN ⊢
   generalize hbb : s[k] = b at hb HN
   obtain ⟨X, hX⟩ : ∃ X, X = R ^^^ b.toNat := ⟨_, rfl⟩
   have hx : bits .xor .u32 (R : Int) (b.toNat : Int) = (X : Int) := by rw [hX]; exact u32_xor_nat R b.toNat hr (by omega)
   have hXl : X < 4294967296 := by rw [hX]; exact Nat.xor_lt_two_pow (n := 32) hr (by omega)
   rw [← hX, Fr.Tn8] at HN
   have c1 := HC.out X hXl
   have hX1l : Fr.Tn 4 X < 4294967296 := Fr.Tn_lt hXl
   generalize Fr.Tn 4 X = X1 at c1 hX1l HN
   have c2 := HC.out X1 hX1l
   generalize Fr.Tn 4 X1 = X2 at c2 HN
   clear hX
   go_wp2_with fail
   with_reducible refine c1.mono ?_
   rintro e w1 ⟨rfl, h1⟩
   subst w1
   clear c1
   go_wp2_with fail
   with_reducible refine c2.mono ?_
   rintro e w1 ⟨rfl, h1⟩
   subst w1
   clear c2
   go_wp2
   go_round
   case rel => exact ⟨k + 1, by omega, by simp, by rw [HN.out]⟩
   case measure => simp [intOf]; omega
  ·obtain rfl : k = s.size := by omega
   have hki : ¬ (s.size : Int) < (s.size : Int) := by omega
   have hta : s.data.toList.take s.size = s.data.toList := List.take_of_length_le (by rw [Ty.length_data]; exact Nat.le_refl _)
   have HSM : Hid (Fr.sum s.data.toList = Fr.reg Fr.ones (s.data.toList.take s.size) ^^^ 4294967295) := Lib.hid (by rw [hta]; rfl)
   generalize Fr.reg Fr.ones (s.data.toList.take s.size) = R at hr HSM ⊢
   have hx : bits .xor .u32 IntKind.u32.max (R : Int) = ((4294967295 ^^^ R : Nat) : Int) := u32_xor_nat 4294967295 R (by decide) hr
   go_wp2
   go_ret
   exact ⟨by rw [HSM.out, Nat.xor_comm]; rfl, rfl⟩
set_option maxHeartbeats 1000000 in
set_option maxRecDepth 100000 in
theorem Fr.four_c (n : Nat) (hn : n < 4294967296) (w : World) :
 Calls Tryz.prog 102 #[.int .u32 (n : Int)] w fun e w' => e = .returned (.string (Ty.S (Fr.four n))) ∧ Below w.heap.size w w' := by
 have hcv := (Fr.four_buf n hn w).str
 go_enter Tryz.func102, Tryz.ntmps102
 go_wp2
 go_ret
 exact ⟨rfl, (Below.refl _ _).alloc (Nat.le_refl _) _⟩
theorem Fr.or_add {a b k : Nat} (ha : a < 2 ^ k) : a ||| b * 2 ^ k = a + b * 2 ^ k := by
 rw [Nat.or_comm, ← Nat.shiftLeft_eq, Nat.add_comm, Nat.shiftLeft_add_eq_or_of_lt ha]
set_option maxHeartbeats 2000000 in
set_option maxRecDepth 100000 in
theorem Fr.numberOf_c (s : ByteArray) (h : 4 ≤ s.size) (w : World) :
 Calls Tryz.prog 136 #[.string s] w fun e w' => e = .returned (.int .u32 ((Fr.val (s.data.toList.take 4) : Nat) : Int)) ∧ ∃ n, w' = w.drewN n := by
 have hv := Fr.val4 h
 have h0 := (s[0]).toNat_lt
 have h1 := (s[1]).toNat_lt
 have h2 := (s[2]).toNat_lt
 have h3 := (s[3]).toNat_lt
 have z0 : (0 : Int) < (s.size : Int) := by omega
 have z1 : (1 : Int) < (s.size : Int) := by omega
 have z2 : (2 : Int) < (s.size : Int) := by omega
 have z3 : (3 : Int) < (s.size : Int) := by omega
 have n0 : 0 < s.size := by omega
 have n1 : 1 < s.size := by omega
 have n2 : 2 < s.size := by omega
 have n3 : 3 < s.size := by omega
 have o1 : bits .or .u32 ((s[0]).toNat : Int) (((s[1]).toNat : Int) * 256) = (((s[0]).toNat + (s[1]).toNat * 256 : Nat) : Int) := by
  have := u32_or_nat (s[0]).toNat ((s[1]).toNat * 256) (by omega) (by omega)
  rw [Fr.or_add (k := 8) (by omega)] at this
  exact this
 have o2 : bits .or .u32 (((s[0]).toNat + (s[1]).toNat * 256 : Nat) : Int) (((s[2]).toNat : Int) * 65536) = (((s[0]).toNat + (s[1]).toNat * 256 + (s[2]).toNat * 65536 : Nat) : Int) := by
  have := u32_or_nat ((s[0]).toNat + (s[1]).toNat * 256) ((s[2]).toNat * 65536) (by omega) (by omega)
  rw [Fr.or_add (k := 16) (by omega)] at this
  exact this
 have o3 : bits .or .u32 (((s[0]).toNat + (s[1]).toNat * 256 + (s[2]).toNat * 65536 : Nat) : Int) (((s[3]).toNat : Int) * 16777216) = ((Fr.val (s.data.toList.take 4) : Nat) : Int) := by
  have := u32_or_nat ((s[0]).toNat + (s[1]).toNat * 256 + (s[2]).toNat * 65536) ((s[3]).toNat * 16777216) (by omega) (by omega)
  rw [Fr.or_add (k := 24) (by omega), ← hv] at this
  exact this
 generalize Fr.val (s.data.toList.take 4) = V at o3 ⊢
 generalize (s[0]).toNat + (s[1]).toNat * 256 + (s[2]).toNat * 65536 = V2 at o2 o3
 generalize (s[0]).toNat + (s[1]).toNat * 256 = V1 at o1 o2
 clear hv
 go_enter Tryz.func136, Tryz.ntmps136
 go_wp2_with fail
 go_quiet (fail)
 go_wp2
 go_ret
 exact ⟨rfl, _, rfl⟩
end
section
open Go.RowKit
def Fr.fst (l : List UInt8) : List UInt8 × Nat :=
 if l.length < 4 then ([], 2) else if 1048576 < Fr.val (l.take 4) then ([], 8) else if l.length < Fr.val (l.take 4) + 8 then ([], 2)
 else if Fr.val ((l.drop (4 + Fr.val (l.take 4))).take 4) ≠ Fr.sum ((l.drop 4).take (Fr.val (l.take 4))) then ([], 8) else ((l.drop 4).take (Fr.val (l.take 4)), 0)
theorem Fr.Mid.fst {l : List UInt8} {a : Nat} {L : List Fr.Str} (h : Fr.Mid l a L) :
 ((Fr.fst (l.drop a)).2 = 2 ∧ Fr.scan l = (0, L, a)) ∨ ((Fr.fst (l.drop a)).2 = 8 ∧ Fr.scan l = (8, [], 0)) ∨
 ((Fr.fst (l.drop a)).2 = 0 ∧ (Fr.fst (l.drop a)).1.length ≤ 1048576 ∧ a + ((Fr.fst (l.drop a)).1.length + 8) ≤ l.length ∧ Fr.Mid l (a + ((Fr.fst (l.drop a)).1.length + 8)) (L ++ [(Fr.fst (l.drop a)).1])) := by
 by_cases h4 : (l.drop a).length < 4
 ·have e : Fr.fst (l.drop a) = ([], 2) := if_pos h4
  rw [e]
  exact .inl ⟨rfl, h.short h4⟩
 ·by_cases hb : 1048576 < Fr.val ((l.drop a).take 4)
  ·have e : Fr.fst (l.drop a) = ([], 8) := (if_neg h4).trans (if_pos hb)
   rw [e]
   exact .inr (.inl ⟨rfl, h.big h4 hb⟩)
  ·by_cases ht : (l.drop a).length < Fr.val ((l.drop a).take 4) + 8
   ·have e : Fr.fst (l.drop a) = ([], 2) := (if_neg h4).trans ((if_neg hb).trans (if_pos ht))
    rw [e]
    exact .inl ⟨rfl, h.torn h4 hb ht⟩
   ·by_cases hs : Fr.val (((l.drop a).drop (4 + Fr.val ((l.drop a).take 4))).take 4) = Fr.sum (((l.drop a).drop 4).take (Fr.val ((l.drop a).take 4)))
    ·have e : Fr.fst (l.drop a) = (((l.drop a).drop 4).take (Fr.val ((l.drop a).take 4)), 0) := (if_neg h4).trans ((if_neg hb).trans ((if_neg ht).trans (if_neg (fun h => h hs))))
     have hlen : (l.drop a).length = l.length - a := List.length_drop
     have hk : (((l.drop a).drop 4).take (Fr.val ((l.drop a).take 4))).length = Fr.val ((l.drop a).take 4) := by
      rw [List.length_take, List.length_drop]; omega
     have hn := h.next h4 hb ht hs
     have := h.1
     rw [e]
     refine .inr (.inr ⟨rfl, ?_⟩)
     rw [show (((l.drop a).drop 4).take (Fr.val ((l.drop a).take 4)), (0 : Nat)).1 = ((l.drop a).drop 4).take (Fr.val ((l.drop a).take 4)) from rfl, hk]
     exact ⟨by omega, by omega, hn⟩
    ·have e : Fr.fst (l.drop a) = ([], 8) := (if_neg h4).trans ((if_neg hb).trans ((if_neg ht).trans (if_pos hs)))
     rw [e]
     exact .inr (.inl ⟨rfl, h.wrong h4 hb ht hs⟩)
set_option maxHeartbeats 2000000 in
set_option maxRecDepth 100000 in
theorem Fr.first_c (g : Nat) (s : ByteArray) (hs : s.size ≤ 140737488355328) (w : World) (hT : Fr.Tab w g) :
 Calls Tryz.prog 111 #[.pointer (some ⟨g, 0, none⟩), .string s] w fun e w' => e = .returned (.tuple #[.string (Ty.S (Fr.fst s.data.toList).1), .int .i64 (((Fr.fst s.data.toList).2 : Nat) : Int)]) ∧ ∃ n, w' = w.drewN n := by
 obtain ⟨l, hl⟩ : ∃ l, l = s.data.toList := ⟨_, rfl⟩
 have hll : l.length = s.size := by rw [hl, Ty.length_data]
 rw [← hl]
 have HL := Lib.hid hl
 obtain ⟨R, hR⟩ : ∃ R, R = Fr.fst l := ⟨_, rfl⟩
 rw [← hR]
 have HRR := Lib.hid hR
 have HT := Lib.hid hT
 clear hR hT
 by_cases h4 : s.size < 4
 ·have h4i : (s.size : Int) < 4 := by omega
  have HE : Hid (R = ([], 2)) := Lib.hid (HRR.out.trans (if_pos (by omega)))
  clear hl hll h4
  go_enter Tryz.func111, Tryz.ntmps111
  go_wp2
  go_ret2
  exact ⟨by rw [HE.out]; rfl, 0, rfl⟩
 ·have h4i : ¬ (s.size : Int) < 4 := by omega
  have cn := Fr.numberOf_c s (by omega) w
  rw [← hl] at cn
  have hN32 : Fr.val (l.take 4) < 4294967296 := by
   have := Fr.val_lt (l.take 4)
   rw [List.length_take, Nat.min_eq_left (by omega)] at this
   exact this
  have FB : Hid (1048576 < Fr.val (l.take 4) → R = ([], 8)) := Lib.hid fun h => HRR.out.trans ((if_neg (by omega)).trans (if_pos h))
  have FT : Hid (¬ 1048576 < Fr.val (l.take 4) → s.size < Fr.val (l.take 4) + 8 → R = ([], 2)) := Lib.hid fun h h2 => HRR.out.trans ((if_neg (by omega)).trans ((if_neg h).trans (if_pos (by omega))))
  have FW : Hid (¬ 1048576 < Fr.val (l.take 4) → ¬ s.size < Fr.val (l.take 4) + 8 → Fr.val ((l.drop (4 + Fr.val (l.take 4))).take 4) ≠ Fr.sum ((l.drop 4).take (Fr.val (l.take 4))) → R = ([], 8)) := Lib.hid fun h h2 h3 => HRR.out.trans ((if_neg (by omega)).trans ((if_neg h).trans ((if_neg (by omega)).trans (if_pos h3))))
  have FN : Hid (¬ 1048576 < Fr.val (l.take 4) → ¬ s.size < Fr.val (l.take 4) + 8 → Fr.val ((l.drop (4 + Fr.val (l.take 4))).take 4) = Fr.sum ((l.drop 4).take (Fr.val (l.take 4))) → R = ((l.drop 4).take (Fr.val (l.take 4)), 0)) := Lib.hid fun h h2 h3 => HRR.out.trans ((if_neg (by omega)).trans ((if_neg h).trans ((if_neg (by omega)).trans (if_neg (fun hh => hh h3)))))
  generalize Fr.val (l.take 4) = N at cn hN32 FB FT FW FN
  clear hl h4
  go_enter Tryz.func111, Tryz.ntmps111
  go_wp2_with fail
  with_reducible refine cn.mono ?_
  rintro e w1 ⟨rfl, n1, hw1⟩
  have HT1 : Hid (Fr.Tab w1 g) := Lib.hid (Fr.Tab.kept HT.out (by rw [hw1]; exact Bt.drewN_below w n1))
  have HW1 := Lib.hid hw1
  clear hw1 cn HT
  by_cases hb : 1048576 < N
  ·have hbi : (1048576 : Int) < (N : Int) := by omega
   have HE := Lib.hid (FB.out hb)
   clear hb FT FW FN hll
   go_wp2
   go_ret2
   exact ⟨by rw [HE.out]; rfl, n1, HW1.out⟩
  ·have hbi : ¬ (1048576 : Int) < (N : Int) := by omega
   by_cases ht : s.size < N + 8
   ·have hti : (s.size : Int) < 4 + (N : Int) + 4 := by omega
    have HE := Lib.hid (FT.out hb (by omega))
    clear hb ht FW FN FB hll
    go_wp2
    go_ret2
    exact ⟨by rw [HE.out]; rfl, n1, HW1.out⟩
   ·have hti : ¬ (s.size : Int) < 4 + (N : Int) + 4 := by omega
    have hT : s.extract 4 (4 + N) = Ty.S ((l.drop 4).take N) := by rw [Fr.ext_at, HL.out, Nat.add_sub_cancel_left]
    have hY : s.extract (4 + N) s.size = Ty.S (l.drop (4 + N)) := by
     rw [Fr.ext_at, HL.out, List.take_of_length_le (by rw [List.length_drop, Ty.length_data]; omega)]
    have hTs : (Ty.S ((l.drop 4).take N)).size ≤ 1048576 := by rw [Ty.size_S, List.length_take]; omega
    have hYs : 4 ≤ (Ty.S (l.drop (4 + N))).size := by rw [Ty.size_S, List.length_drop]; omega
    have C1 : Hid (∀ m, Calls Tryz.prog 131 #[.pointer (some ⟨g, 0, none⟩), .string (Ty.S ((l.drop 4).take N))] (w1.drewN m) fun e w' => e = .returned (.int .u32 ((Fr.sum ((l.drop 4).take N) : Nat) : Int)) ∧ w' = w1.drewN m) := Lib.hid fun m => by
     have := Fr.tsum_c g (Ty.S ((l.drop 4).take N)) (by omega) (w1.drewN m) (Fr.Tab.kept HT1.out (Bt.drewN_below w1 m))
     rwa [Ty.data_S] at this
    have C2 : Hid (∀ m, Calls Tryz.prog 136 #[.string (Ty.S (l.drop (4 + N)))] (w1.drewN m) fun e w' => e = .returned (.int .u32 ((Fr.val ((l.drop (4 + N)).take 4) : Nat) : Int)) ∧ ∃ n, w' = (w1.drewN m).drewN n) := Lib.hid fun m => by
     have := Fr.numberOf_c (Ty.S (l.drop (4 + N))) hYs (w1.drewN m)
     rwa [Ty.data_S] at this
    have FW := Lib.hid (FW.out hb ht)
    have FN := Lib.hid (FN.out hb ht)
    generalize Fr.val ((l.drop (4 + N)).take 4) = V at C2 FW FN
    generalize Fr.sum ((l.drop 4).take N) = M at C1 FW FN
    generalize (l.drop 4).take N = K at hT hTs C1 FN
    generalize Ty.S (l.drop (4 + N)) = Y at hY hYs C2
    obtain ⟨T, hTT⟩ : ∃ T, T = Ty.S K := ⟨_, rfl⟩
    rw [← hTT] at hT hTs C1
    have HTT := Lib.hid hTT
    have t2 : (4 + (N : Int)).toNat = 4 + N := by omega
    have hN2 : N + 8 ≤ s.size := by omega
    have hN2i : (4 + (N : Int)) ≤ (s.size : Int) := by omega
    have hN4i : (4 : Int) ≤ 4 + (N : Int) := by omega
    clear hTT hb ht hll FB FT
    go_wp2_with fail
    go_quiet (first | (go_at_call 131; exact Calls.quiet_of_same (C1.out _)) | (go_at_call 136; exact Calls.quiet_of (C2.out _)))
    by_cases hv : V = M
    ·have hvi : ((M : Nat) : Int) = ((V : Nat) : Int) := by rw [hv]
     have HE := Lib.hid (FN.out hv)
     clear FW FN hv
     go_wp2
     go_ret2
     refine ⟨by rw [HE.out, HTT.out]; rfl, n1 + nq, ?_⟩
     rw [HW1.out]
     exact World.drewN_drewN _ _ _
    ·have hvi : ¬ ((M : Nat) : Int) = ((V : Nat) : Int) := by omega
     have HE := Lib.hid (FW.out hv)
     clear FW FN hv
     go_wp2
     go_ret2
     refine ⟨by rw [HE.out]; rfl, n1 + nq, ?_⟩
     rw [HW1.out]
     exact World.drewN_drewN _ _ _
end
end Go.Proofs.YtbelkhkllneifaaGreatDoor
