/-
  The document's Read.
  Contracts of package block: which deeds are sorted.
  Contracts of package block: flags, width, which deeds have a column (the closure), their rows.
-/
import Derived.Test.YtfbjmehkipcmbaaGreatDoorVAQ
import Derived.Test.YtfbjmehkipcmbaaGreatDoorVAR
import Derived.Test.YtfbjmehkipcmbaaGreatDoorVAS
import Derived.Deep.RegionLaw
import Derived.Test.YtfbjmehkipcmbaaGreatDoorVAJ
import Derived.Test.YtfbjmehkipcmbaaGreatDoorVAA
import Derived.Test.YtfbjmehkipcmbaaGreatDoorVAD
import Derived.Test.YtfbjmehkipcmbaaGreatDoorVAF
namespace Go.Proofs.YtfbjmehkipcmbaaGreatDoor
open Go.RowKit
open Ty (num txt)
open Ig (rest)
def Bk.Got (w : World) (r : Nat × List Dd.D) (e : Ending) (w' : World) : Prop :=
  ∃ v, e = .returned (.tuple #[v, .int .i64 ((r.1 : Nat) : Int)]) ∧ Bk.Ds w' v r.2 ∧ Below w.heap.size w w'
theorem Bk.Got.bad {w w' : World} {r : Nat × List Dd.D} {z : Int} {q : Nat} (hr : r = (q, [])) (hz : z = (q : Int)) (g : Below w.heap.size w w') : Bk.Got w r (.returned (.tuple #[.slice none 0 0, .int .i64 z])) w' :=
  ⟨_, by rw [hr, hz], by rw [hr]; exact ⟨none, 0, rfl, Nat.le_refl _, by decide, .inl rfl⟩, g⟩
theorem Bk.Got.good {w w' : World} {r : Nat × List Dd.D} {v : Value} {L : List Dd.D} (hr : r = (0, L)) (h : Bk.Ds w' v L) (g : Below w.heap.size w w') : Bk.Got w r (.returned (.tuple #[v, .int .i64 0])) w' :=
  ⟨v, by rw [hr]; rfl, by rw [hr]; exact h, g⟩
theorem Bk.grow_ {w w' : World} (h : Below w.heap.size w w') {w'' : World} (g : Below w'.heap.size w' w'') : Below w.heap.size w w'' := h.trans (g.mono h.size)
theorem Bk.run_make (n : Nat) (hn : n ≤ 8) (w : World) : (Instr.makeSlice 23 (.int .u64 (n : Int)) (.int .u64 (n : Int))).run Tryz.prog w = .ok (.slice (some ⟨w.heap.size, 0, none⟩) n n) (w.alloc (.cells (madeCells #[.bool false, .slice none 0 0] (n * 2)) 37)) := by
  obtain ⟨i0, hi, hz0, hz1, hz2⟩ := info_parts (show (Tryz.prog.info? 37).map (fun i => (i.zero, i.size, i.bytes)) = some (some (.agg #[.bool false, .slice none 0 0]), 2, 32) by kernel_rfl)
  have := Go.run_make (P := Tryz.prog) w 23 37 i0 _ Tryz.underlying23 hi hz0 .u64 .u64 n n (by omega) (Int.le_refl _) (by rw [hz2]; omega) (by omega)
  rw [hz1, Int.toNat_natCast] at this
  exact this
theorem Bk.bit_is (b : UInt8) (k : Nat) : ((((b.toNat : Int) / 2 ^ k).tmod 2) == 1) = b.toNat.testBit k := by
  rw [Nat.testBit_eq_decide_div_mod_eq, Int.tmod_eq_emod_of_nonneg (Int.ediv_nonneg (by omega) (by exact_mod_cast Nat.zero_le _))]
  have e : (b.toNat : Int) / 2 ^ k % 2 = ((b.toNat / 2 ^ k % 2 : Nat) : Int) := by push_cast; rfl
  rw [e]
  by_cases h : b.toNat / 2 ^ k % 2 = 1
  · rw [h]; rfl
  · rw [decide_eq_false h, beq_eq_false_iff_ne]
    omega
theorem Bk.rd_zs {c : Kn.C} {l : List UInt8} (h : (Cl.rd c l).1 = 0) : ∀ v ∈ (Cl.rd c l).2, Kn.Z v := fun v hv => by
  obtain ⟨h1, _, _, _⟩ := Cl.enc_rd h
  have ha : (Cl.rd c l).2.all (Cl.is c) = true := by
    unfold Cl.wE at h1
    by_cases hg : c.good = true
    · rw [if_pos hg] at h1
      by_cases hl : 65536 < (Cl.rd c l).2.length
      · rw [if_pos hl] at h1; cases h1
      · rw [if_neg hl] at h1
        by_cases ha : (Cl.rd c l).2.all (Cl.is c) = true
        · exact ha
        · rw [if_neg ha] at h1; cases h1
    · rw [if_neg hg] at h1; cases h1
  have hi := List.all_eq_true.1 ha v hv
  unfold Kn.Z
  cases hn : v.null
  · by_cases hk : c.k = 1
    · rw [Cl.is_num hk hi hn]
      exact Nat.zero_le _
    · have := (Cl.is_str hk hi hn).2
      rw [Bt.length_data] at this
      omega
  · rw [(Cl.is_null hi hn).1]
    exact Nat.zero_le _
theorem Bk.lv_le (L : List Dd.D) : Bk.lv L ≤ L.length := List.length_filter_le ..
set_option maxHeartbeats 4000000 in
set_option maxRecDepth 100000 in
theorem Bk.rread_c (v : Value) (s : List Kn.C) (t : ByteArray) (w : World) (hs : Kn.Cols w v s) (ht : t.size ≤ 140737488351232) :
    Calls Tryz.prog 14 #[v, .string t] w (Bk.Got w (Bk.rd s t.data.toList)) := by
  have HS := Lib.hid hs
  obtain ⟨R, hR⟩ : ∃ R, R = Bk.rd s t.data.toList := ⟨_, rfl⟩
  rw [← hR]
  have HRR := Lib.hid hR
  have CR := Lib.hid fun wz h => Kn.rRight_c v s wz h
  clear hR hs
  cases hrt : Kn.right s
  · rw [hrt] at CR
    have HE := Lib.hid (HRR.out.trans (Bk.rd_k hrt))
    clear hrt
    go_enter Tryz.func14, Tryz.ntmps14
    go_wp2_with fail
    with_reducible refine (CR.out w HS.out).mono ?_
    rintro e w1 ⟨rfl, h1⟩
    subst w1
    go_wp2
    go_ret2
    exact Bk.Got.bad HE.out rfl (Below.refl _ _)
  · rw [hrt] at CR
    have HRT := Lib.hid hrt
    have hsl := Kn.right_len hrt
    obtain ⟨l, hl⟩ : ∃ l, l = t.data.toList := ⟨_, rfl⟩
    rw [← hl] at HRR
    have HBAD : Hid ((num l).2.2 ≠ 0 ∨ rest l = [] ∨ (∃ b r, rest l = b :: r ∧ ((num l).1 < 1 ∨ 8 < (num l).1 ∨ b.toNat / 2 ^ (num l).1 ≠ 0)) → R = (8, [])) := Lib.hid fun h => by
      by_cases h1 : (num l).2.2 = 0
      · rcases h with h | h | ⟨b, r, h, h2⟩
        · exact absurd h1 h
        · exact HRR.out.trans (Bk.rd_e HRT.out h1 h)
        · exact HRR.out.trans (Bk.rd_b HRT.out h1 h h2)
      · exact HRR.out.trans (Bk.rd_h HRT.out h1)
    have HGOOD : Hid (∀ b r, (num l).2.2 = 0 → rest l = b :: r → ¬ ((num l).1 < 1 ∨ 8 < (num l).1 ∨ b.toNat / 2 ^ (num l).1 ≠ 0) → R = Bk.rdE s (num l).1 b r) := Lib.hid fun b r h1 h2 h3 => HRR.out.trans (Bk.rd_g HRT.out h1 h2 h3)
    have CU := Lib.hid fun r wz h => Tx.ruint_x r t ht l wz h
    have CB := Lib.hid fun r e wz h => Ty.rbyte_m r t ht (rest l) e wz h
    have CT := Lib.hid fun r l wz h => Ty.rtext_m r t ht l 0 1048576 (by omega) wz h
    have CD := Lib.hid fun r l wz h => Ty.rdone_m r t ht l 0 wz h
    have HNW := Lib.hid (Tx.RS_new t w)
    rw [← hl] at HNW
    generalize (num l).2.2 = E at CU HBAD HGOOD
    generalize (num l).1 = n at CU HBAD HGOOD
    generalize rest l = l1 at CU CB HBAD HGOOD
    obtain ⟨sa, sc, rfl, hsc⟩ := HS.out.is
    have HSC := Lib.hid hsc
    clear hrt hsc HRR
    go_enter Tryz.func14, Tryz.ntmps14
    go_wp2_with fail
    with_reducible refine (CR.out w HS.out).mono ?_
    rintro e w1 ⟨rfl, h1⟩
    subst w1
    go_wp2_with fail
    have hal : Below w.heap.size w (w.alloc (.cells #[.string t, .int .i64 0, .int .i64 0] 68)) := (Below.refl _ w).alloc (Nat.le_refl _) _
    have hsz1 : (w.alloc (.cells #[.string t, .int .i64 0, .int .i64 0] 68)).heap.size = w.heap.size + 1 := World.size_alloc ..
    have HB1 := Lib.hid hal
    generalize w.alloc _ = w1 at HNW HB1 hsz1 ⊢
    obtain ⟨r, hr⟩ : ∃ r, r = w.heap.size := ⟨_, rfl⟩
    rw [← hr] at HNW hsz1 ⊢
    have HRE := Lib.hid hr
    clear hal hr
    with_reducible refine (CU.out r w1 HNW.out).mono ?_
    rintro e w2 ⟨rfl, hR2, g2⟩
    have HR2 := Lib.hid hR2
    have HG2 := Lib.hid g2
    have hs2 : r + 1 ≤ w2.heap.size := by have := g2.size; omega
    clear hR2 g2 HNW hsz1
    go_wp2_with fail
    with_reducible refine (CB.out r E w2 HR2.out).mono ?_
    rintro e w3 ⟨rfl, hR3, g3⟩
    have HR3 := Lib.hid hR3
    have HB3 : Hid (Below w.heap.size w w3) := Lib.hid (by
      have := HRE.out
      exact (HB1.out.trans (Ty.below_at (B := w.heap.size) HG2.out HB1.out.size (by omega))).trans (Ty.below_at (B := w.heap.size) g3 (by omega) (by omega)))
    have hs3 : r + 1 ≤ w3.heap.size := by have := g3.size; omega
    clear hR3 g3 hs2 HG2 HR2 HB1 CU CB
    by_cases hE : E = 0
    · subst hE
      cases l1 with
      | nil =>
        have e3 : Ty.rdB [] 0 = (0, [], 2) := rfl
        rw [e3] at HR3 ⊢
        simp only at HR3 ⊢
        have hc := Tx.RS_err HR3.out
        have HE := Lib.hid (HBAD.out (.inr (.inl rfl)))
        go_wp2
        go_ret2
        exact Bk.Got.bad HE.out rfl HB3.out
      | cons b l2 =>
        have e3 : Ty.rdB (b :: l2) 0 = (b.toNat, l2, 0) := rfl
        rw [e3] at HR3 ⊢
        simp only at HR3 ⊢
        have hc := Tx.RS_err HR3.out
        by_cases h1 : n < 1
        · have HE := Lib.hid (HBAD.out (.inr (.inr ⟨b, l2, rfl, .inl h1⟩)))
          have dn : (n : Int) < 1 := by omega
          clear h1
          go_wp2
          go_ret2
          exact Bk.Got.bad HE.out rfl HB3.out
        by_cases h8 : 8 < n
        · have HE := Lib.hid (HBAD.out (.inr (.inr ⟨b, l2, rfl, .inr (.inl h8)⟩)))
          have dn : (8 : Int) < n := by omega
          have dn1 : ¬ (n : Int) < 1 := by omega
          clear h1 h8
          go_wp2
          go_ret2
          exact Bk.Got.bad HE.out rfl HB3.out
        have dn8 : ¬ (8 : Int) < n := by omega
        have dn1 : ¬ (n : Int) < 1 := by omega
        by_cases h2 : b.toNat / 2 ^ n = 0
        · have HE := Lib.hid (HGOOD.out b l2 rfl rfl (by omega))
          have d2 : ((b.toNat : Int) / 2 ^ n != 0) = false := by
            rw [bne_eq_false_iff_eq]
            exact_mod_cast h2
          have hmk := Bk.run_make n (by omega)
          have HN : Hid (1 ≤ n ∧ n ≤ 8) := Lib.hid (by omega)
          clear h1 h8 h2 HBAD HGOOD
          go_wp2_with fail
          have hst := Bk.St.made w3 n
          rw [← Bk.mk_zero n b] at hst
          have hal : Below w3.heap.size w3 (w3.alloc (.cells (madeCells #[.bool false, .slice none 0 0] (n * 2)) 37)) := (Below.refl _ w3).alloc (Nat.le_refl _) _
          have hr4 := Tx.RS_below HR3.out hal (by omega)
          have hb4 := Bk.grow_ HB3.out hal
          generalize w3.alloc _ = w4 at hst hr4 hb4 ⊢
          obtain ⟨q, hq⟩ : ∃ q, q = w3.heap.size := ⟨_, rfl⟩
          rw [← hq] at hst ⊢
          have hrq : r < q := by omega
          have HST := Lib.hid hst
          have HR4 := Lib.hid hr4
          have HB4 := Lib.hid hb4
          clear hmk hal hr4 hb4 hst hc HR3 HB3 d2 hs3 hq
          go_loopw [10, 11] (fun lv i wr => ∃ k : Nat, k ≤ n ∧ i = .int .i64 k ∧ lv = .int .i64 (Bk.lv ((Bk.mk n b k).take k) : Nat) ∧ Bk.St (q + 1) q wr (fun _ => .slice none 0 0) (Bk.mk n b k) ∧ Below w.heap.size w wr ∧ Ty.RS r t wr l2 0) (fun _ i _ => n - (intOf i).toNat)
          case atStart => exact ⟨0, Nat.zero_le _, rfl, rfl, HST.out, HB4.out, HR4.out⟩
          case round =>
            obtain ⟨k, hk, rfl, rfl, hSt, hb, hRS⟩ := hrel
            have HST1 := Lib.hid hSt
            have HB := Lib.hid hb
            have HRS := Lib.hid hRS
            have dk0 : (0 : Int) ≤ (k : Int) := by omega
            clear HST HB4 HR4 hb hRS
            by_cases hkl : k < n
            · have hx := Bk.mk_at b hkl
              obtain ⟨c0, c1, f0, f1⟩ := hSt.cells hx
              have dk : (k : Int) < (n : Int) := by omega
              have HK := Lib.hid hkl
              clear hSt hkl hk
              go_upto_region 14 with (fail)
              rw [Bk.bit_is]
              have hst2 := HST1.out.mark hx (b.toNat.testBit k)
              have hlm := Bk.lv_mark hx (b.toNat.testBit k)
              have hx2 : ((Bk.mk n b k).set k ⟨b.toNat.testBit k, Bk.nod.row⟩)[k]? = some ⟨b.toNat.testBit k, []⟩ := by
                rw [List.getElem?_set_self (by rw [Bk.mk_len]; exact HK.out)]
                rfl
              rw [show Bk.nod.row = [] from rfl, Bk.mk_step b HK.out] at hst2 hx2 hlm
              have HRS2 := Lib.hid (Tx.RS_below HRS.out (Cl.below_cell (B := q) (Below.refl _ wr) (Nat.le_refl _) (i := k * 2) (.bool (b.toNat.testBit k))) hrq)
              have HB2 := Lib.hid (Cl.below_cell HB.out (g := q) (by have := HRE.out; omega) (i := k * 2) (.bool (b.toNat.testBit k)))
              have hl8 : Bk.lv ((Bk.mk n b k).take k) ≤ 8 := Nat.le_trans (Bk.lv_le _) (by rw [List.length_take, Bk.mk_len]; have := HN.out; omega)
              generalize Bk.lv ((Bk.mk n b k).take k) = m at hlm hl8 ⊢
              clear c0 c1 f0 f1 hx HST1 HB HRS
              generalize wr.setCell _ _ = w5 at hst2 HRS2 HB2 ⊢
              obtain ⟨c0, -, -, -⟩ := hst2.cells hx2
              simp only at c0
              have HST2 := Lib.hid hst2
              have HLM := Lib.hid hlm
              clear hst2 hx2 hlm
              generalize b.toNat.testBit k = g at c0 HLM ⊢
              have hm0 : (0 : Int) ≤ (m : Int) := by omega
              have hm8 : (m : Int) ≤ 8 := by omega
              cases g
              · go_wp2
                go_roundw
                case rel => exact ⟨k + 1, HK.out, by simp, by rw [HLM.out]; simp, HST2.out, HB2.out, HRS2.out⟩
                case measure => (have := HK.out; simp [intOf]; omega)
              · go_wp2
                go_roundw
                case rel => exact ⟨k + 1, HK.out, by simp, by rw [HLM.out]; simp, HST2.out, HB2.out, HRS2.out⟩
                case measure => (have := HK.out; simp [intOf]; omega)
            · obtain rfl : k = n := by omega
              have dk : ¬ (k : Int) < (k : Int) := by omega
              have hlv : Bk.lv ((Bk.mk k b k).take k) = Bk.lv (Bk.none_ k b) := by
                rw [← Bk.mk_done]
                congr 1
                rw [List.take_of_length_le (by rw [Bk.mk_len]; exact Nat.le_refl _)]
              rw [hlv]
              rw [Bk.mk_done] at HST1
              have hA0 : (Bk.none_ k b).length = k := by rw [← Bk.mk_done, Bk.mk_len]
              have HA0 := Lib.hid hA0
              have HZ0 := Lib.hid (Bk.none_zs k b)
              have HL0 := Lib.hid (Bk.len0 k b)
              generalize hA : Bk.none_ k b = A0 at HST1 HA0 HZ0 HL0 ⊢
              clear hSt hkl hk hlv hA0
              have HST0 := Lib.hid HST1.out
              have HBL := Lib.hid HB.out
              have HRL := Lib.hid HRS.out
              have HKN := Lib.hid HN.out
              clear HST1 HB HRS
              go_wp2_with fail
              go_loopw [12] (fun i wr2 => ∃ (j : Nat) (A : List Dd.D) (Rf : Nat → Value) (l3 : List UInt8), i = .int .i64 j ∧ Bk.MidC s A0 l2 j A l3 ∧ Bk.St (q + 1) q wr2 Rf A ∧ Bk.Len j A ∧ Bk.Zs A ∧ Ty.RS r t wr2 l3 0 ∧ Below w.heap.size w wr2) (fun i _ => s.length - (intOf i).toNat)
              case atStart => exact ⟨0, A0, _, l2, rfl, Bk.MidC.start _ _ _, HST0.out, HL0.out, HZ0.out, HRL.out, HBL.out⟩
              case round =>
                obtain ⟨j, A, Rf, l3, rfl, hM, hSt, hLA, hZA, hRS, hb⟩ := hrel
                have HLA := Lib.hid hLA
                have HZA := Lib.hid hZA
                have HM := Lib.hid hM
                have HST2 := Lib.hid hSt
                have HRS2 := Lib.hid hRS
                have HB2 := Lib.hid hb
                have dj0 : (0 : Int) ≤ (j : Int) := by omega
                clear HST0 HRL HBL hM hSt hLA hZA hRS hb dk
                by_cases hj : j < s.length
                · rcases HSC.out with rfl | ⟨b9, o9, rfl, hbl, hm9, hc9⟩
                  · simp at hj
                  · have hx := List.getElem?_eq_getElem hj
                    generalize s[j] = cc at hx
                    have hrw : b9 < r := by rw [HRE.out]; exact hbl
                    have c0 := (HB2.out.cell (p := ⟨b9, o9 + j * 2, none⟩) hbl).trans (hc9 j cc hx).1
                    have c1 := (HB2.out.cell (p := ⟨b9, o9 + j * 2 + 1, none⟩) hbl).trans (hc9 j cc hx).2
                    have dj : (j : Int) < (s.length : Int) := by omega
                    have e : Ty.rdT 1048576 l3 0 = ((txt l3 Bk.most).1, Bk.restM l3, (txt l3 Bk.most).2.2) := by unfold Ty.rdT; rw [if_neg (by omega)]; rfl
                    have ct := CT.out r l3 _ HRS2.out
                    rw [e] at ct
                    have hT1 : (Ty.S (txt l3 Bk.most).1).size ≤ 140737488351232 := by
                      rw [Ty.size_S]
                      have h1 := Ty.txt_len l3 Bk.most
                      have h2 := Tx.RS_len HRS2.out
                      omega
                    have C6 := Lib.hid fun wz => Bk.rread6_c cc (Ty.S (txt l3 Bk.most).1) wz hT1
                    have HNX : Hid ((txt l3 Bk.most).2.2 = 0 → (Cl.rd cc (txt l3 Bk.most).1).1 = 0 → (Cl.rd cc (txt l3 Bk.most).1).2.length = (A.filter (Bk.has j)).length → Bk.MidC s A0 l2 (j + 1) (Bk.dist j A (Cl.rd cc (txt l3 Bk.most).1).2) (Bk.restM l3)) := Lib.hid fun h1 h2 h3 => HM.out.next hx ⟨h1, h2, h3⟩
                    have HFL : Hid (¬ ((txt l3 Bk.most).2.2 = 0 ∧ (Cl.rd cc (txt l3 Bk.most).1).1 = 0 ∧ (Cl.rd cc (txt l3 Bk.most).1).2.length = (A.filter (Bk.has j)).length) → R = (8, [])) := Lib.hid fun h => HE.out.trans (Bk.rdE_fail (by rw [hA]; exact HM.out.fail hx h))
                    rw [show (Ty.S (txt l3 Bk.most).1).data.toList = (txt l3 Bk.most).1 from rfl] at C6
                    have HAL : Hid (A.length = k ∧ Bk.lv A = Bk.lv A0) := Lib.hid ⟨HM.out.2.1.trans HA0.out, HM.out.2.2.1⟩
                    have HZV := Lib.hid fun h => Bk.rd_zs (c := cc) (l := (txt l3 Bk.most).1) h
                    generalize Cl.rd cc (txt l3 Bk.most).1 = rv at C6 HNX HFL HZV
                    generalize (txt l3 Bk.most).1 = T1 at ct C6
                    generalize (txt l3 Bk.most).2.2 = E1 at ct HNX HFL
                    generalize Bk.restM l3 = l4 at ct HNX
                    obtain ⟨E2, vs⟩ := rv
                    unfold Bk.GotF at C6
                    unfold Kn.C.val at C6
                    simp only at ct C6 HNX HFL HZV
                    have HX := Lib.hid hx
                    have HHC : Hid (∀ W, Below w.heap.size w W → W.cell? ⟨b9, o9 + j * 2, none⟩ = some (.int .i64 cc.k) ∧ W.cell? ⟨b9, o9 + j * 2 + 1, none⟩ = some (.bool cc.null)) := Lib.hid fun W g => ⟨(g.cell (p := ⟨b9, o9 + j * 2, none⟩) hbl).trans (hc9 j cc hx).1, (g.cell (p := ⟨b9, o9 + j * 2 + 1, none⟩) hbl).trans (hc9 j cc hx).2⟩
                    have HJ := Lib.hid hj
                    clear e hT1 hx hc9 hm9 c0 c1 hj
                    go_wp2_with fail
                    with_reducible refine ct.mono ?_
                    rintro e w5 ⟨rfl, hR5, g5⟩
                    have hrq2 : q ≠ r := by omega
                    have HST5 := Lib.hid (HST2.out.by_ g5 (by omega) hrq2)
                    have HB5 := Lib.hid (HB2.out.trans (Ty.below_at (B := w.heap.size) g5 HB2.out.size (by have := HRE.out; omega)))
                    have HR5 := Lib.hid hR5
                    obtain ⟨c0, c1⟩ := HHC.out w5 HB5.out
                    clear ct hR5 g5
                    go_wp2_with fail
                    with_reducible refine (C6.out w5).mono ?_
                    rintro e w6 ⟨v6, rfl, hv6, hf6, g6⟩
                    (try simp only at hv6)
                    have HST6 := Lib.hid (HST5.out.kept g6)
                    have HR6 := Lib.hid (Tx.RS_below HR5.out g6 (Tx.RS_lt HR5.out))
                    have HB6 := Lib.hid (Bk.grow_ HB5.out g6)
                    have HV6 := Lib.hid hv6
                    have hc := Tx.RS_err HR6.out
                    have hq5 := HST5.out.le
                    obtain ⟨a6, c6, rfl, -⟩ := hv6
                    have HLP : Hid (E1 = 0 → Bk.Lp w r q t l4 (.slice a6 vs.length c6) vs w6 Rf A) := Lib.hid fun hE0 => ⟨HST6.out, HV6.out, (Bk.vals_lt HV6.out).imp id (fun ⟨bv, hbv, hlt⟩ => ⟨fun b hb => ⟨Nat.le_trans hq5 (hf6 b hb), by rw [hbv] at hb; cases hb; exact hlt⟩, fun i b hi hb hu => by
                      have h1 := (HST5.out.ob (List.getElem?_eq_getElem hi) b hb).2
                      have h2 := hf6 b hu
                      omega⟩), hE0 ▸ HR6.out, hrq, HB6.out, by have := HRE.out; omega⟩
                    clear C6 hf6 g6 c0 c1 hq5
                    by_cases hE1 : E1 = 0
                    rotate_left
                    · have hE1b : ((E1 : Int) != 0) = true := by rw [bne_iff_ne]; omega
                      have HX := Lib.hid (HFL.out fun h => hE1 h.1)
                      clear hE1
                      go_wp2
                      go_ret2
                      exact Bk.Got.bad HX.out rfl HB6.out
                    by_cases hE2 : E2 = 0
                    rotate_left
                    · have hE2b : ((E2 : Int) != 0) = true := by rw [bne_iff_ne]; omega
                      have HX := Lib.hid (HFL.out fun h => hE2 h.2.1)
                      subst hE1
                      clear hE2
                      simp only [Int.natCast_zero] at hc
                      go_wp2
                      go_ret2
                      exact Bk.Got.bad HX.out rfl HB6.out
                    subst hE1 hE2
                    simp only [Int.natCast_zero] at hc ⊢
                    have hways : (((j : Int) == 0) = true ∧ ¬ (0 : Int) < (j : Int) ∧ (A.filter (Bk.has j)).length = k ∧ ∀ d, Bk.has j d = true) ∨ (((j : Int) == 0) = false ∧ (0 : Int) < (j : Int) ∧ (A.filter (Bk.has j)).length = Bk.lv A0 ∧ ∀ d, Bk.has j d = !d.gone) := by
                      by_cases h0 : j = 0
                      · refine .inl ⟨by rw [beq_iff_eq]; omega, by omega, ?_, fun d => by rw [h0]; rfl⟩
                        rw [h0, Bk.filt_zero]
                        exact HAL.out.1
                      · refine .inr ⟨by rw [beq_eq_false_iff_ne]; omega, by omega, ?_, fun d => by unfold Bk.has; rw [show (j == 0) = false by rw [beq_eq_false_iff_ne]; exact h0, Bool.false_or]⟩
                        rw [Bk.filt_pos h0]
                        exact HAL.out.2
                    by_cases hlen : vs.length = (A.filter (Bk.has j)).length
                    rotate_left
                    · have HX := Lib.hid (HFL.out fun h => hlen h.2.2)
                      rcases hways with ⟨d1, d2, d3, -⟩ | ⟨d1, d2, d3, -⟩
                      · have d4 : ((vs.length : Int) != (k : Int)) = true := by rw [bne_iff_ne]; omega
                        clear hlen d3
                        go_wp2
                        go_ret2
                        exact Bk.Got.bad HX.out rfl HB6.out
                      · have d4 : ((vs.length : Int) != (Bk.lv A0 : Int)) = true := by rw [bne_iff_ne]; omega
                        clear hlen d3
                        go_wp2
                        go_ret2
                        exact Bk.Got.bad HX.out rfl HB6.out
                    have HNX2 := Lib.hid (HNX.out rfl rfl hlen)
                    have HV8 : Hid (vs.length ≤ 8) := Lib.hid (by
                      rw [hlen]
                      exact Nat.le_trans (List.length_filter_le ..) (by have := HAL.out.1; have := HKN.out; omega))
                    have HMD := Lib.hid (Bk.MidD.start hlen)
                    have HZ2 := Lib.hid (Bk.dist_zs j A vs HZA.out (HZV.out rfl))
                    have HL2 := Lib.hid (Bk.dist_len j A vs HLA.out)
                    have HLP2 := Lib.hid (HLP.out rfl)
                    clear HLP HNX HFL HZV HV6 HB6 HR6 HST6 HST5 HB5 HR5 HM HST2 HRS2 HB2 HHC
                    rcases hways with ⟨d1, d2, d3, d5⟩ | ⟨d1, d2, d3, d5⟩
                    · have d4 : ((vs.length : Int) != (k : Int)) = false := by rw [bne_eq_false_iff_eq]; omega
                      have HD5 := Lib.hid d5
                      clear hlen d3 d5
                      go_wp2_with fail
                      clear hc d4
                      go_loopw [16, 17] (fun av kv wr3 => ∃ (p at_ : Nat) (B : List Dd.D) (Rg : Nat → Value), kv = .int .i64 p ∧ av = .int .i64 at_ ∧ p ≤ k ∧ Bk.MidD j A vs B p at_ ∧ Bk.Lp w r q t l4 (.slice a6 vs.length c6) vs wr3 Rg B) (fun _ kv _ => k - (intOf kv).toNat)
                      case atStart => exact ⟨0, 0, A, Rf, rfl, rfl, Nat.zero_le _, HMD.out, HLP2.out⟩
                      case round =>
                        obtain ⟨p, at_, B, Rg, rfl, rfl, hpk, hD, hL⟩ := hrel
                        have HD := Lib.hid hD
                        have HL := Lib.hid hL
                        have dp0 : (0 : Int) ≤ (p : Int) := by omega
                        have hBl : B.length = k := hD.1.trans HAL.out.1
                        clear HMD HLP2
                        by_cases hp : p < k
                        · have hx := List.getElem?_eq_getElem (l := B) (i := p) (by omega)
                          generalize B[p] = d at hx
                          have HDR : Hid (∀ d' : Dd.D, B[p]? = some d' → d'.row.length ≤ 6) := Lib.hid fun d' h => by
                            have h2 := HLA.out d' (List.mem_of_getElem? (by rw [← hD.at_]; exact h))
                            have := HJ.out
                            split at h2 <;> omega
                          obtain ⟨dg, dr⟩ := d
                          obtain ⟨k0, k1, k2, k3⟩ := hL.st.cells hx
                          simp only at k0
                          obtain ⟨ra, rc, hrp, -⟩ := (hL.st.own p _ hx).vals
                          simp only at hrp
                          rw [hrp] at k1
                          have dp : (p : Int) < (k : Int) := by omega
                          have hh : Bk.has j ⟨dg, dr⟩ = true := HD5.out _
                          obtain ⟨x, hxv, hD2⟩ := hD.give hx hh
                          obtain ⟨b6, o6, ha6, hat⟩ := Bk.vals_at hL.vals hxv
                          subst ha6
                          obtain ⟨xn, xi, xs⟩ := x
                          obtain ⟨e0, e1, e2⟩ := hat
                          simp only at e0 e1 e2
                          have hatl := (List.getElem?_eq_some_iff.1 hxv).1
                          have da : (at_ : Int) < (vs.length : Int) := by omega
                          have da0 : (0 : Int) ≤ (at_ : Int) := by omega
                          have da8 : (at_ : Int) ≤ 8 := by have := HV8.out; omega
                          have HD2 := Lib.hid hD2
                          have HLd := Lib.hid (hL.kept (Bt.drewN_below wr 1))
                          have hOw : Dk.Own 42 3 Bk.ve (q + 1) wr.drew (.slice ra dr.length rc) dr := by
                            have := HLd.out.st.own p _ hx
                            rw [hrp] at this
                            exact this
                          have hle : q + 1 ≤ wr.heap.size := HL.out.st.le
                          have hal : Below wr.heap.size wr (wr.alloc (.cells #[.bool xn, .int .i64 xi, .string xs] 42)) := (Below.refl _ wr).alloc (Nat.le_refl _) _
                          have k1n : (wr.alloc (.cells #[.bool xn, .int .i64 xi, .string xs] 42)).cell? ⟨q, p * 2 + 1, none⟩ = some (.slice ra dr.length rc) := (hal.cell (p := ⟨q, p * 2 + 1, none⟩) (by show q < wr.heap.size; omega)).trans k1
                          have hle2 : q + 1 ≤ (wr.drew.alloc (.cells #[.bool xn, .int .i64 xi, .string xs] 42)).heap.size := by rw [World.size_alloc]; show q + 1 ≤ wr.heap.size + 1; omega
                          clear hal
                          have hdl : dr.length ≤ 6 := HDR.out _ hx
                          have HX := Lib.hid hx
                          have HRP := Lib.hid hrp
                          have HP := Lib.hid hp
                          clear hx hp hh hD hD2 hL hxv hatl hrp k2
                          go_wp2_with fail
                          go_region_law (first
                            | (refine Dk.step_appendB (enc := Bk.ve) 35 _ 32 Tryz.underlying35 Cl.infoV rfl (by decide) Bk.ve_len3 Bk.ve_one [(⟨xn, xi, xs⟩ : Kn.V)] (base := q + 1) hle2 (World.ownsRow.alloc hOw _) (by simp only [List.length_singleton]; omega) (by simp only [List.length_singleton]; omega) _ _ _ (by rfl) (by rfl) (by rfl) (by rfl) (Dk.src_cell (Dk.cell_new rfl)) ?_; intro v7 w7 o7 g7; have H7 := Lib.hid (And.intro o7 (g7.behind _)); obtain ⟨gg, cc, rfl, _, _⟩ := o7.form1; obtain ⟨c7, f7⟩ := HLd.out.after HX.out HRP.out H7.out.2))
                          all_goals
                            have HLN := Lib.hid (HLd.out.grow HX.out HRP.out (x := ⟨xn, xi, xs⟩) (show Cl.Own (q + 1) _ _ (dr ++ [(⟨xn, xi, xs⟩ : Kn.V)]) from H7.out.1) H7.out.2)
                            go_wp2
                            go_roundw
                            case rel => exact ⟨p + 1, at_ + 1, _, _, by simp, by simp, HP.out, HD2.out, HLN.out⟩
                            case measure => (have := HP.out; simp [intOf]; omega)
                        · obtain rfl : p = k := by omega
                          have dk : ¬ (p : Int) < (p : Int) := by omega
                          have hde := HD.out.done HAL.out.1.symm
                          rw [hde] at HNX2 HZ2 HL2
                          have HJJ := HJ.out
                          clear hde hD hL hp
                          go_wp2
                          go_roundw
                          case rel => exact ⟨j + 1, _, _, l4, by simp, HNX2.out, HL.out.st, HL2.out, HZ2.out, HL.out.rs, HL.out.bel⟩
                          case measure => (simp [intOf]; omega)
                    · have d4 : ((vs.length : Int) != (Bk.lv A0 : Int)) = false := by rw [bne_eq_false_iff_eq]; omega
                      have HD5 := Lib.hid d5
                      clear hlen d3 d5
                      go_wp2_with fail
                      clear hc d4
                      go_loopw [16, 17] (fun av kv wr3 => ∃ (p at_ : Nat) (B : List Dd.D) (Rg : Nat → Value), kv = .int .i64 p ∧ av = .int .i64 at_ ∧ p ≤ k ∧ Bk.MidD j A vs B p at_ ∧ Bk.Lp w r q t l4 (.slice a6 vs.length c6) vs wr3 Rg B) (fun _ kv _ => k - (intOf kv).toNat)
                      case atStart => exact ⟨0, 0, A, Rf, rfl, rfl, Nat.zero_le _, HMD.out, HLP2.out⟩
                      case round =>
                        obtain ⟨p, at_, B, Rg, rfl, rfl, hpk, hD, hL⟩ := hrel
                        have HD := Lib.hid hD
                        have HL := Lib.hid hL
                        have dp0 : (0 : Int) ≤ (p : Int) := by omega
                        have hBl : B.length = k := hD.1.trans HAL.out.1
                        clear HMD HLP2
                        by_cases hp : p < k
                        · have hx := List.getElem?_eq_getElem (l := B) (i := p) (by omega)
                          generalize B[p] = d at hx
                          have HDR : Hid (∀ d' : Dd.D, B[p]? = some d' → d'.row.length ≤ 6) := Lib.hid fun d' h => by
                            have h2 := HLA.out d' (List.mem_of_getElem? (by rw [← hD.at_]; exact h))
                            have := HJ.out
                            split at h2 <;> omega
                          obtain ⟨dg, dr⟩ := d
                          obtain ⟨k0, k1, k2, k3⟩ := hL.st.cells hx
                          simp only at k0
                          obtain ⟨ra, rc, hrp, -⟩ := (hL.st.own p _ hx).vals
                          simp only at hrp
                          rw [hrp] at k1
                          have dp : (p : Int) < (k : Int) := by omega
                          have hh := HD5.out ⟨dg, dr⟩
                          simp only at hh
                          cases dg
                          · rw [Bool.not_false] at hh
                            obtain ⟨x, hxv, hD2⟩ := hD.give hx hh
                            obtain ⟨b6, o6, ha6, hat⟩ := Bk.vals_at hL.vals hxv
                            subst ha6
                            obtain ⟨xn, xi, xs⟩ := x
                            obtain ⟨e0, e1, e2⟩ := hat
                            simp only at e0 e1 e2
                            have hatl := (List.getElem?_eq_some_iff.1 hxv).1
                            have da : (at_ : Int) < (vs.length : Int) := by omega
                            have da0 : (0 : Int) ≤ (at_ : Int) := by omega
                            have da8 : (at_ : Int) ≤ 8 := by have := HV8.out; omega
                            have HD2 := Lib.hid hD2
                            have HLd := Lib.hid (hL.kept (Bt.drewN_below wr 1))
                            have hOw : Dk.Own 42 3 Bk.ve (q + 1) wr.drew (.slice ra dr.length rc) dr := by
                              have := HLd.out.st.own p _ hx
                              rw [hrp] at this
                              exact this
                            have hle : q + 1 ≤ wr.heap.size := HL.out.st.le
                            have hal : Below wr.heap.size wr (wr.alloc (.cells #[.bool xn, .int .i64 xi, .string xs] 42)) := (Below.refl _ wr).alloc (Nat.le_refl _) _
                            have k1n : (wr.alloc (.cells #[.bool xn, .int .i64 xi, .string xs] 42)).cell? ⟨q, p * 2 + 1, none⟩ = some (.slice ra dr.length rc) := (hal.cell (p := ⟨q, p * 2 + 1, none⟩) (by show q < wr.heap.size; omega)).trans k1
                            have hle2 : q + 1 ≤ (wr.drew.alloc (.cells #[.bool xn, .int .i64 xi, .string xs] 42)).heap.size := by rw [World.size_alloc]; show q + 1 ≤ wr.heap.size + 1; omega
                            clear hal
                            have hdl : dr.length ≤ 6 := HDR.out _ hx
                            have HX := Lib.hid hx
                            have HRP := Lib.hid hrp
                            have HP := Lib.hid hp
                            clear hx hp hh hD hD2 hL hxv hatl hrp k2
                            go_wp2_with fail
                            go_region_law (first
                              | (refine Dk.step_appendB (enc := Bk.ve) 35 _ 32 Tryz.underlying35 Cl.infoV rfl (by decide) Bk.ve_len3 Bk.ve_one [(⟨xn, xi, xs⟩ : Kn.V)] (base := q + 1) hle2 (World.ownsRow.alloc hOw _) (by simp only [List.length_singleton]; omega) (by simp only [List.length_singleton]; omega) _ _ _ (by rfl) (by rfl) (by rfl) (by rfl) (Dk.src_cell (Dk.cell_new rfl)) ?_; intro v7 w7 o7 g7; have H7 := Lib.hid (And.intro o7 (g7.behind _)); obtain ⟨gg, cc, rfl, _, _⟩ := o7.form1; obtain ⟨c7, f7⟩ := HLd.out.after HX.out HRP.out H7.out.2))
                            all_goals
                              have HLN := Lib.hid (HLd.out.grow HX.out HRP.out (x := ⟨xn, xi, xs⟩) (show Cl.Own (q + 1) _ _ (dr ++ [(⟨xn, xi, xs⟩ : Kn.V)]) from H7.out.1) H7.out.2)
                              go_wp2
                              go_roundw
                              case rel => exact ⟨p + 1, at_ + 1, _, _, by simp, by simp, HP.out, HD2.out, HLN.out⟩
                              case measure => (have := HP.out; simp [intOf]; omega)
                          · rw [Bool.not_true] at hh
                            have HD2 := Lib.hid (hD.skip hx hh)
                            have HP := Lib.hid hp
                            clear hx hp hh hD hL hrp k2
                            go_wp2
                            go_roundw
                            case rel => exact ⟨p + 1, at_, _, _, by simp, by simp, HP.out, HD2.out, HL.out⟩
                            case measure => (have := HP.out; simp [intOf]; omega)
                        · obtain rfl : p = k := by omega
                          have dk : ¬ (p : Int) < (p : Int) := by omega
                          have hde := HD.out.done HAL.out.1.symm
                          rw [hde] at HNX2 HZ2 HL2
                          have HJJ := HJ.out
                          clear hde hD hL hp
                          go_wp2
                          go_roundw
                          case rel => exact ⟨j + 1, _, _, l4, by simp, HNX2.out, HL.out.st, HL2.out, HZ2.out, HL.out.rs, HL.out.bel⟩
                          case measure => (simp [intOf]; omega)
                · obtain rfl : j = s.length := by have := HM.out.1; omega
                  have dj : ¬ (s.length : Int) < (s.length : Int) := by omega
                  have hdone := HM.out.done rfl
                  have HBD := Lib.hid fun h => HE.out.trans (Bk.rdE_bad (by rw [hA]; exact hdone) h)
                  have HGD := Lib.hid fun h g => HE.out.trans (Bk.rdE_good (by rw [hA]; exact hdone) h g)
                  have cd := CD.out r l3 _ HRS2.out
                  have hAk : A.length = k := HM.out.2.1.trans HA0.out
                  by_cases hl3 : l3 = []
                  rotate_left
                  · have hf : Ty.fin l3 0 = 5 := by unfold Ty.fin; rw [if_pos ⟨rfl, hl3⟩]
                    rw [hf] at cd
                    have HX := Lib.hid (HBD.out fun h => hl3 h.1)
                    clear hl3 hf hdone hAk hj
                    go_wp2_with fail
                    with_reducible refine cd.mono ?_
                    rintro e w5 ⟨rfl, hR5, g5⟩
                    have HB5 := Lib.hid (HB2.out.trans (Ty.below_at (B := w.heap.size) g5 HB2.out.size (by have := HRE.out; omega)))
                    clear cd hR5 g5
                    go_wp2
                    go_ret2
                    exact Bk.Got.bad HX.out rfl HB5.out
                  have hf : Ty.fin l3 0 = 0 := by rw [hl3]; rfl
                  rw [hf] at cd
                  simp only [Int.natCast_zero] at cd
                  have HL3 := Lib.hid hl3
                  have HAK := Lib.hid hAk
                  clear hl3 hf hdone hAk hj
                  go_wp2_with fail
                  with_reducible refine cd.mono ?_
                  rintro e w5 ⟨rfl, hR5, g5⟩
                  have HST5 := Lib.hid (HST2.out.by_ g5 (by omega) (by omega))
                  have HB5 := Lib.hid (HB2.out.trans (Ty.below_at (B := w.heap.size) g5 HB2.out.size (by have := HRE.out; omega)))
                  have hds := HST5.out.ds (by have := HAK.out; have := HKN.out; omega) k HAK.out.symm
                  rw [HAK.out] at hds
                  have HDS := Lib.hid hds
                  have cs := Bk.rsorted_c _ A w5 hds HZA.out
                  clear cd hR5 g5 hds
                  by_cases hsr : Bk.sorted A = true
                  · rw [hsr] at cs
                    have HX := Lib.hid (HGD.out HL3.out hsr)
                    clear hsr
                    go_wp2_with fail
                    with_reducible refine cs.mono ?_
                    rintro e w7 ⟨rfl, g7⟩
                    have HD7 := Lib.hid (HDS.out.later g7)
                    have HB7 := Lib.hid (Bk.grow_ HB5.out g7)
                    clear cs g7
                    go_wp2
                    go_ret2
                    exact Bk.Got.good HX.out HD7.out HB7.out
                  · have hsf : Bk.sorted A = false := by rw [← Bool.not_eq_true]; exact hsr
                    rw [hsf] at cs
                    have HX := Lib.hid (HBD.out fun h => hsr h.2)
                    clear hsr hsf
                    go_wp2_with fail
                    with_reducible refine cs.mono ?_
                    rintro e w7 ⟨rfl, g7⟩
                    have HB7 := Lib.hid (Bk.grow_ HB5.out g7)
                    clear cs g7
                    go_wp2
                    go_ret2
                    exact Bk.Got.bad HX.out rfl HB7.out
        · have HE := Lib.hid (HBAD.out (.inr (.inr ⟨b, l2, rfl, .inr (.inr h2)⟩)))
          have d2 : ((b.toNat : Int) / 2 ^ n != 0) = true := by
            rw [bne_iff_ne]
            intro h
            exact h2 (by exact_mod_cast h)
          clear h1 h8 h2
          go_wp2
          go_ret2
          exact Bk.Got.bad HE.out rfl HB3.out
    · have e3 : Ty.rdB l1 E = (0, l1, E) := by unfold Ty.rdB; rw [if_pos hE]
      rw [e3] at HR3 ⊢
      simp only at HR3 ⊢
      have hc := Tx.RS_err HR3.out
      have hEb : ((E : Int) != 0) = true := by rw [bne_iff_ne]; omega
      have HE := Lib.hid (HBAD.out (.inl hE))
      clear hE
      go_wp2
      go_ret2
      exact Bk.Got.bad HE.out rfl HB3.out
end Go.Proofs.YtfbjmehkipcmbaaGreatDoor

namespace Go.Proofs.YtfbjmehkipcmbaaGreatDoor
open Go.RowKit
set_option maxHeartbeats 4000000 in
set_option maxRecDepth 100000 in
theorem Bk.psorted_c (v : Value) (L : List Dd.D) (w : World) (hv : Bk.Ds w v L) (hz : Bk.Zs L) : Calls Tryz.prog 11 #[v] w fun e w' => e = .returned (.bool (Bk.sorted L)) ∧ Below w.heap.size w w' := by
  obtain ⟨a, c, rfl, hlc, hcm, h⟩ := hv
  have HH := Lib.hid h
  have HZ := Lib.hid hz
  clear h hz
  generalize hB : Bk.sorted L = B
  have HB := Lib.hid hB
  clear hB
  go_enter Tryz.func11, Tryz.ntmps11
  go_wp2_with fail
  go_loopw [7] (fun i wr => ∃ k : Nat, k ≤ L.length ∧ i = .int .i64 k ∧ (∀ j, j < k → Bk.step L j = true) ∧ Below w.heap.size w wr) (fun i _ => L.length - (intOf i).toNat)
  case atStart => exact ⟨0, Nat.zero_le _, rfl, (fun j hj => by omega), Below.refl _ _⟩
  case round =>
    obtain ⟨k, hk, rfl, hs, hg⟩ := hrel
    have HS := Lib.hid hs
    have HG := Lib.hid hg
    clear hs
    by_cases hkl : k < L.length
    · rcases HH.out with rfl | ⟨b, o, rfl, hlt, hc⟩
      · simp at hkl
      · have hx := List.getElem?_eq_getElem hkl
        have hm := List.getElem_mem hkl
        generalize L[k] = d at hx hm
        obtain ⟨u, c0, c1, hu⟩ := hc k d hx
        have hu := hu.later hg
        have c0 := (hg.cell (p := ⟨b, o + k * 2, none⟩) hlt).trans c0
        have c1 := (hg.cell (p := ⟨b, o + k * 2 + 1, none⟩) hlt).trans c1
        have dk : (k : Int) < (L.length : Int) := by omega
        have dk0 : (0 : Int) ≤ (k : Int) := by omega
        have HK := Lib.hid hkl
        have HX := Lib.hid hx
        have HC := Lib.hid hc
        have HU := Lib.hid hu
        have hlw : b < wr.heap.size := Nat.lt_of_lt_of_le hlt hg.size
        have HLW := Lib.hid hlw
        obtain ⟨ua, uc, rfl, huc⟩ := hu
        have HUC := Lib.hid huc
        clear hc hx hkl hk huc hlw
        go_upto_region 4 with (fail)
        have HB1 : Hid (Below wr.heap.size wr (wr.alloc (.cells #[.bool d.gone, .slice ua d.row.length uc] 37))) := Lib.hid ((Below.refl _ _).alloc (Nat.le_refl _) _)
        have x1 := Kn.cell_new wr #[.bool d.gone, .slice ua d.row.length uc] 37 1 _ rfl
        simp only [List.getElem_toArray, List.getElem_cons_zero, List.getElem_cons_succ] at x1
        obtain ⟨q, hq⟩ : ∃ q, q = wr.heap.size := ⟨_, rfl⟩
        rw [← hq] at x1 ⊢
        clear hq c0 c1
        generalize wr.alloc _ = w1 at HB1 x1 ⊢
        have HG1 := Lib.hid (HG.out.trans (HB1.out.mono HG.out.size))
        by_cases he : d.row = []
        · have HE := Lib.hid (Bk.sorted_no HK.out (Bk.step_empty HX.out he))
          obtain rfl : B = false := HB.out.symm.trans HE.out
          rw [he] at x1
          simp only [List.length_nil] at x1
          clear he hm
          go_wp2
          go_ret
          exact ⟨rfl, HG1.out⟩
        · have hz0 : ((d.row.length : Int) == 0) = false := by
            rw [beq_eq_false_iff_ne]
            have := List.length_pos_iff.2 he
            omega
          rcases HUC.out with h0 | ⟨b2, o2, rfl, hlt2, hm2, hcc⟩
          · exact absurd h0 he
          · have hp0 : 0 < d.row.length := List.length_pos_iff.2 he
            have hx0 := List.getElem?_eq_getElem hp0
            have hzx := HZ.out d hm _ (List.getElem_mem hp0)
            generalize d.row[0] = x at hx0 hzx
            obtain ⟨e0, e1, e2⟩ := hcc 0 x hx0
            simp only [Nat.zero_mul, Nat.add_zero] at e0 e1 e2
            have e0 := (HB1.out.cell (p := ⟨b2, o2, none⟩) hlt2).trans e0
            have e1 := (HB1.out.cell (p := ⟨b2, o2 + 1, none⟩) hlt2).trans e1
            have e2 := (HB1.out.cell (p := ⟨b2, o2 + 2, none⟩) hlt2).trans e2
            have HE := Lib.hid he
            have hp1 : (0 : Int) < (d.row.length : Int) := by omega
            go_upto_region 6 with (fail)
            have X1 := fun d os => cell_regrown x1 d os
            have E0 := fun d os => cell_regrown e0 d os
            have E1 := fun d os => cell_regrown e1 d os
            have E2 := fun d os => cell_regrown e2 d os
            clear x1
            cases k with
            | zero =>
              have HF := Lib.hid (Bk.step_first HX.out he)
              clear hcc e0 e1 e2 hm hzx hp0 he
              refine wp_region_quiet_below (by kernel_rfl) (by kernel_rfl) ?_
              repeat (go_big_quiet_step (fail))
              refine wpQuiet_nil ?_
              intro _ hw'
              have HG2 := Lib.hid (HG1.out.trans ((Bk.below_reg hw').mono HG1.out.size))
              go_wp2
              go_roundw
              case rel => exact ⟨1, HK.out, by simp, (fun j hj => by obtain rfl : j = 0 := (by omega); exact HF.out), HG2.out⟩
              case measure => (have := HK.out; simp [intOf]; omega)
            | succ j =>
              have hjl : j < L.length := by have := HK.out; omega
              have hy := List.getElem?_eq_getElem hjl
              have hmy := List.getElem_mem hjl
              generalize L[j] = p at hy hmy
              obtain ⟨u2, d0, d1, hu2⟩ := HC.out j p hy
              have hu2 := hu2.later HG1.out
              have d1 := (HG1.out.cell (p := ⟨b, o + j * 2 + 1, none⟩) hlt).trans d1
              have hpe := Bk.step_row hy (HS.out j (by omega))
              obtain ⟨ua2, uc2, rfl, huc2⟩ := hu2
              rcases huc2 with h0 | ⟨b3, o3, rfl, hlt3, hm3, hcc3⟩
              · exact absurd h0 hpe
              · have hq0 : 0 < p.row.length := List.length_pos_iff.2 hpe
                have hy0 := List.getElem?_eq_getElem hq0
                have hzy := HZ.out p hmy _ (List.getElem_mem hq0)
                generalize p.row[0] = y at hy0 hzy
                obtain ⟨g0, g1, g2⟩ := hcc3 0 y hy0
                simp only [Nat.zero_mul, Nat.add_zero] at g0 g1 g2
                have G0 := fun d os => cell_regrown g0 d os
                have G1 := fun d os => cell_regrown g1 d os
                have G2 := fun d os => cell_regrown g2 d os
                have D1 := fun d os => cell_regrown d1 d os
                have HF := Lib.hid (Bk.step_next HX.out hy hx0 hy0)
                have cA := Kn.compare_c y x
                generalize Kn.cmp y x = z at HF cA
                unfold Kn.V.val at cA
                have CA : Hid (∀ p : Regrown, _) := Lib.hid fun p : Regrown => Calls.regrown_of (d := p.d) (os := p.os) (w := w1) (cA _)
                have hq1 : (0 : Int) < (p.row.length : Int) := by omega
                have hwr : IntKind.i64.wrap ((j : Int) + 1 - 1) = (j : Int) := by rw [IntKind.wrap_i64]; omega
                have hwr2 : IntKind.i64.wrap (j : Int) = (j : Int) := by rw [IntKind.wrap_i64]; omega
                have dj : (j : Int) < (L.length : Int) := by omega
                have dj0 : (0 : Int) ≤ (j : Int) := by omega
                have dj1 : (0 : Int) < (j : Int) + 1 := by omega
                simp only [Int.natCast_add, Int.natCast_one] at dk dk0
                have HJ := Lib.hid hjl
                clear hcc hcc3 e0 e1 e2 g0 g1 g2 d0 d1 hm hmy hzx hzy hp0 hq0 he hpe hy hx0 hy0 cA hjl
                by_cases hz9 : (0 : Int) ≤ z
                · have hzf : decide (z < 0) = false := decide_eq_false (by omega)
                  have hzb : decide ((0 : Int) ≤ z) = true := decide_eq_true hz9
                  obtain rfl : B = false := HB.out.symm.trans (Bk.sorted_no HK.out (HF.out.trans hzf))
                  clear hzf
                  refine wp_region_quiet_below (by kernel_rfl) (by kernel_rfl) ?_
                  repeat (go_big_quiet_step (first | with_reducible exact CA.out _))
                  refine wpQuiet_nil ?_
                  intro _ hw'
                  have HG2 := Lib.hid (HG1.out.trans ((Bk.below_reg hw').mono HG1.out.size))
                  go_wp2
                  go_ret
                  exact ⟨rfl, HG2.out⟩
                · have hzt := Lib.hid (HF.out.trans (decide_eq_true (show z < 0 by omega)))
                  have hzb : decide ((0 : Int) ≤ z) = false := decide_eq_false hz9
                  refine wp_region_quiet_below (by kernel_rfl) (by kernel_rfl) ?_
                  repeat (go_big_quiet_step (first | with_reducible exact CA.out _))
                  refine wpQuiet_nil ?_
                  intro _ hw'
                  have HG2 := Lib.hid (HG1.out.trans ((Bk.below_reg hw').mono HG1.out.size))
                  go_wp2
                  go_roundw
                  case rel => exact ⟨j + 2, HK.out, by simp; omega, (fun i hi => by
                    rcases Nat.lt_or_ge i (j + 1) with h | h
                    · exact HS.out i h
                    · obtain rfl : i = j + 1 := by omega
                      exact hzt.out), HG2.out⟩
                  case measure => (have := HK.out; simp [intOf]; omega)
    · obtain rfl : k = L.length := by omega
      have dk : ¬ (L.length : Int) < (L.length : Int) := by omega
      have HY := Lib.hid (Bk.sorted_yes HS.out)
      obtain rfl : B = true := HB.out.symm.trans HY.out
      clear hkl hk
      go_wp2
      go_ret
      exact ⟨rfl, HG.out⟩
end Go.Proofs.YtfbjmehkipcmbaaGreatDoor

namespace Go.Proofs.YtfbjmehkipcmbaaGreatDoor
open Go.RowKit
def Bk.sv (x : Option Addr × Nat × Nat) : Value := .slice x.1 x.2.1 x.2.2
def Bk.e1 (x : Option Addr × Nat × Nat) : List Value := [Bk.sv x]
theorem Bk.e1_len (x : Option Addr × Nat × Nat) : (Bk.e1 x).length = 1 := rfl
theorem Bk.e1_one (x : Option Addr × Nat × Nat) : ∀ u ∈ Bk.e1 x, u.oneCell' = true := fun u hu => by
  simp only [Bk.e1, List.mem_cons, List.not_mem_nil, or_false] at hu
  subst hu
  rfl
theorem Bk.infoR : (Tryz.prog.info? 35).map (fun i => (i.zero, i.size, i.bytes)) = some (some (.slice none 0 0), 1, 24) := by kernel_rfl
structure Bk.Dr (w : World) (v : Value) (L : List Dd.D) (R : Nat → Option Addr × Nat × Nat) : Prop where
  is : ∃ a c, v = .slice a L.length c ∧ (L = [] ∨ ∃ b o, a = some ⟨b, o, none⟩ ∧ b < w.heap.size ∧
    ∀ i x, L[i]? = some x → w.cell? ⟨b, o + i * 2, none⟩ = some (.bool x.gone) ∧ w.cell? ⟨b, o + i * 2 + 1, none⟩ = some (Bk.sv (R i)))
theorem Bk.Dr.later {w w' : World} {v : Value} {L : List Dd.D} {R : Nat → Option Addr × Nat × Nat} (h : Bk.Dr w v L R) (g : Below w.heap.size w w') : Bk.Dr w' v L R := by
  obtain ⟨a, c, hv, h⟩ := h
  refine ⟨a, c, hv, ?_⟩
  rcases h with h | ⟨b, o, ha, hb, h⟩
  · exact .inl h
  · refine .inr ⟨b, o, ha, Nat.lt_of_lt_of_le hb g.size, fun i x hx => ?_⟩
    obtain ⟨c0, c1⟩ := h i x hx
    exact ⟨(g.cell (p := ⟨b, o + i * 2, none⟩) hb).trans c0, (g.cell (p := ⟨b, o + i * 2 + 1, none⟩) hb).trans c1⟩
def Bk.partsOf : Option Value → Option Addr × Nat × Nat
  | some (.slice a n c) => (a, n, c)
  | _ => (none, 0, 0)
theorem Bk.Ds.dr {w : World} {v : Value} {L : List Dd.D} (h : Bk.Ds w v L) : ∃ R, Bk.Dr w v L R ∧ ∀ i x, L[i]? = some x → Kn.Vals w (Bk.sv (R i)) x.row := by
  obtain ⟨a, c, hv, _, _, h⟩ := h
  rcases h with rfl | ⟨b, o, ha, hb, h⟩
  · exact ⟨fun _ => (none, 0, 0), ⟨a, c, hv, .inl rfl⟩, fun i x hx => by simp at hx⟩
  · have key : ∀ i x, L[i]? = some x → w.cell? ⟨b, o + i * 2 + 1, none⟩ = some (Bk.sv (Bk.partsOf (w.cell? ⟨b, o + i * 2 + 1, none⟩))) ∧ Kn.Vals w (Bk.sv (Bk.partsOf (w.cell? ⟨b, o + i * 2 + 1, none⟩))) x.row := fun i x hx => by
      obtain ⟨u, _, c1, hu⟩ := h i x hx
      rw [c1]
      obtain ⟨a', c', rfl, hu'⟩ := hu
      exact ⟨rfl, a', c', rfl, hu'⟩
    exact ⟨fun i => Bk.partsOf (w.cell? ⟨b, o + i * 2 + 1, none⟩), ⟨a, c, hv, .inr ⟨b, o, ha, hb, fun i x hx => ⟨(h i x hx).choose_spec.1, (key i x hx).1⟩⟩⟩, fun i x hx => (key i x hx).2⟩
def Bk.hl (i : Nat) (R : Nat → Option Addr × Nat × Nat) : Nat → List Dd.D → List (Option Addr × Nat × Nat)
  | _, [] => []
  | k, d :: r => if Bk.has i d = true then R k :: Bk.hl i R (k + 1) r else Bk.hl i R (k + 1) r
theorem Bk.hl_snoc (i : Nat) (R : Nat → Option Addr × Nat × Nat) (d : Dd.D) : ∀ (k : Nat) (A : List Dd.D), Bk.hl i R k (A ++ [d]) = Bk.hl i R k A ++ if Bk.has i d = true then [R (k + A.length)] else []
  | k, [] => by
    simp only [List.nil_append, Bk.hl, List.length_nil, Nat.add_zero]
  | k, x :: A => by
    have ih := Bk.hl_snoc i R d (k + 1) A
    simp only [List.cons_append, Bk.hl, List.length_cons]
    rw [ih, show k + 1 + A.length = k + (A.length + 1) by omega]
    split <;> simp
theorem Bk.hl_take {i : Nat} {R : Nat → Option Addr × Nat × Nat} {L : List Dd.D} {k : Nat} {d : Dd.D} (h : L[k]? = some d) : Bk.hl i R 0 (L.take (k + 1)) = Bk.hl i R 0 (L.take k) ++ if Bk.has i d = true then [R k] else [] := by
  obtain ⟨hk, rfl⟩ := List.getElem?_eq_some_iff.1 h
  rw [List.take_succ_eq_append_getElem hk, Bk.hl_snoc, List.length_take, Nat.min_eq_left (by omega), Nat.zero_add]
theorem Bk.hl_len (i : Nat) (R : Nat → Option Addr × Nat × Nat) : ∀ (k : Nat) (L : List Dd.D), (Bk.hl i R k L).length = (L.filter (Bk.has i)).length
  | _, [] => rfl
  | k, d :: L => by
    have ih := Bk.hl_len i R (k + 1) L
    unfold Bk.hl
    rw [List.filter_cons]
    split
    · rw [List.length_cons, List.length_cons, ih]
    · exact ih
theorem Bk.hl_at (i : Nat) (R : Nat → Option Addr × Nat × Nat) : ∀ (o : Nat) (L : List Dd.D) (k : Nat) (u : Option Addr × Nat × Nat), (Bk.hl i R o L)[k]? = some u →
    ∃ j d, L[j]? = some d ∧ Bk.has i d = true ∧ u = R (o + j) ∧ (Bk.col L i)[k]? = some (d.row.getD i Cl.nul)
  | _, [], k, u, h => by simp [Bk.hl] at h
  | o, d :: L, k, u, h => by
    unfold Bk.hl at h
    unfold Bk.col
    rw [List.filter_cons]
    by_cases hh : Bk.has i d = true
    · rw [if_pos hh] at h
      rw [if_pos hh, List.map_cons]
      cases k with
      | zero =>
        obtain rfl : R o = u := by simpa using h
        exact ⟨0, d, rfl, hh, rfl, rfl⟩
      | succ k =>
        obtain ⟨j, d', h1, h2, h3, h4⟩ := Bk.hl_at i R (o + 1) L k u (by simpa using h)
        exact ⟨j + 1, d', by simpa using h1, h2, by rw [h3]; congr 1; omega, by simpa [Bk.col] using h4⟩
    · rw [if_neg hh] at h ⊢
      obtain ⟨j, d', h1, h2, h3, h4⟩ := Bk.hl_at i R (o + 1) L k u h
      exact ⟨j + 1, d', by simpa using h1, h2, by rw [h3]; congr 1; omega, h4⟩
def Bk.wd (s : List Kn.C) (g : Bool) : Nat := if g = true then 1 else s.length
set_option maxRecDepth 100000 in
theorem Bk.width_c (v : Value) (s : List Kn.C) (g : Bool) (w : World) (hs : Kn.Cols w v s) :
    Calls Tryz.prog 63 #[v, .bool g] w fun e w' => e = .returned (.int .i64 (Bk.wd s g : Nat)) ∧ w' = w := by
  obtain ⟨a, c, rfl, -⟩ := hs
  cases g
  · rw [show Bk.wd s false = s.length from rfl]
    go_enter Tryz.func63, Tryz.ntmps63
    go_wp2
    go_ret
    exact ⟨rfl, rfl⟩
  · rw [show Bk.wd s true = 1 from rfl]
    go_enter Tryz.func63, Tryz.ntmps63
    go_wp2
    go_ret
    exact ⟨rfl, rfl⟩
def Bk.fv (p : Nat) : Value := .func (.func 77) #[] #[.pointer (some ⟨p, 0, none⟩)]
set_option maxHeartbeats 1000000 in
set_option maxRecDepth 100000 in
theorem Bk.having_c (i : Nat) (w : World) :
    Calls Tryz.prog 54 #[.int .i64 (i : Int)] w fun e w' => ∃ p, e = .returned (Bk.fv p) ∧ w.heap.size ≤ p ∧ p < w'.heap.size ∧ w'.cell? ⟨p, 0, none⟩ = some (.int .i64 (i : Int)) ∧ Below w.heap.size w w' := by
  have hx := Kn.cell_new w #[.int .i64 (i : Int)] 3 0 _ rfl
  simp only [List.getElem_toArray, List.getElem_cons_zero] at hx
  have HX := Lib.hid hx
  have HB : Hid (Below w.heap.size w (w.alloc (.cells #[.int .i64 (i : Int)] 3))) := Lib.hid ((Below.refl _ _).alloc (Nat.le_refl _) _)
  have HZ : Hid (w.heap.size < (w.alloc (.cells #[.int .i64 (i : Int)] 3)).heap.size) := Lib.hid (by simp)
  clear hx
  go_enter Tryz.func54, Tryz.ntmps54
  go_wp2
  go_ret
  exact ⟨_, rfl, Nat.le_refl _, HZ.out, HX.out, HB.out⟩
set_option maxHeartbeats 1000000 in
set_option maxRecDepth 100000 in
theorem Bk.has_c (i p : Nat) (d : Dd.D) (a : Option Addr) (n c : Nat) (w : World) (hp : w.cell? ⟨p, 0, none⟩ = some (.int .i64 (i : Int))) (hpl : p < w.heap.size) :
    Calls Tryz.prog 77 #[.agg #[.bool d.gone, .slice a n c], .pointer (some ⟨p, 0, none⟩)] w fun e w' => e = .returned (.bool (Bk.has i d)) ∧ Below w.heap.size w w' := by
  have HB : Hid (Below w.heap.size w (w.alloc (.cells #[.bool d.gone, .slice a n c] 37))) := Lib.hid ((Below.refl _ _).alloc (Nat.le_refl _) _)
  have x0 := Kn.cell_new w #[.bool d.gone, .slice a n c] 37 0 _ rfl
  simp only [List.getElem_toArray, List.getElem_cons_zero] at x0
  have y0 := (HB.out.cell (p := ⟨p, 0, none⟩) hpl).trans hp
  unfold Bk.has
  generalize d.gone = g at *
  by_cases h0 : i = 0
  · subst h0
    rw [show ((0 == 0) || !g) = true from by simp]
    clear x0
    go_enter Tryz.func77, Tryz.ntmps77
    go_wp2
    go_ret
    exact ⟨rfl, HB.out⟩
  · have h1 : ((i : Int) == 0) = false := by rw [beq_eq_false_iff_ne]; omega
    have h2 : (i == 0) = false := by rw [beq_eq_false_iff_ne]; exact h0
    rw [h2, Bool.false_or]
    clear h2 h0
    cases g
    all_goals
      go_enter Tryz.func77, Tryz.ntmps77
      go_wp2
      go_ret
      exact ⟨rfl, HB.out⟩
end Go.Proofs.YtfbjmehkipcmbaaGreatDoor
