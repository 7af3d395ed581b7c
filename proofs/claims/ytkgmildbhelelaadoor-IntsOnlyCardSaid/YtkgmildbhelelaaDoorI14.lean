/-
  Contracts of package ints: the packed reader.
-/
import Derived.Test.YtkgmildbhelelaaDoorI13
namespace Go.Proofs.YtkgmildbhelelaaDoor
open Go.RowKit
open Ig (nth encI encR grp diffs prv low off sg rest rdInts acc rdRuns spread outs good un rdPacked)
open Ty (encU num)
section
variable {n : Nat} {l r : List UInt8} {x : UInt8}
theorem Ig.rdP1 (h : (num l).2.2 ≠ 0) : (rdPacked n l).1 = (num l).2.2 := by unfold rdPacked; rw [if_pos h]
theorem Ig.rdP2 (h : (num l).2.2 = 0) (hr : rest l = []) : (rdPacked n l).1 = 2 := by unfold rdPacked; rw [if_neg (by rw [h]; simp), hr]
theorem Ig.rdP3 (h : (num l).2.2 = 0) (hr : rest l = x :: r) (h64 : 64 < x.toNat) : (rdPacked n l).1 = 4 := by
  unfold rdPacked; rw [if_neg (by rw [h]; simp), hr]; simp only; rw [if_pos h64]
theorem Ig.rdP4 (h : (num l).2.2 = 0) (hr : rest l = x :: r) (h64 : ¬ 64 < x.toNat) (hs : r.length < Bt.need (n * x.toNat)) : (rdPacked n l).1 = 2 := by
  unfold rdPacked; rw [if_neg (by rw [h]; simp), hr]; simp only; rw [if_neg h64, if_pos hs]
theorem Ig.rdP5 (h : (num l).2.2 = 0) (hr : rest l = x :: r) (h64 : ¬ 64 < x.toNat) (hs : ¬ r.length < Bt.need (n * x.toNat)) (hc : Bt.chk (Ty.S (r.take (Bt.need (n * x.toNat)))) (n * x.toNat) ≠ 0) : (rdPacked n l).1 = Bt.chk (Ty.S (r.take (Bt.need (n * x.toNat)))) (n * x.toNat) := by
  unfold rdPacked; rw [if_neg (by rw [h]; simp), hr]; simp only; rw [if_neg h64, if_neg hs]
  unfold Ty.S at hc ⊢
  rw [if_pos hc]
theorem Ig.rdP6 (h : (num l).2.2 = 0) (hr : rest l = x :: r) (h64 : ¬ 64 < x.toNat) (hs : ¬ r.length < Bt.need (n * x.toNat)) (hc : Bt.chk (Ty.S (r.take (Bt.need (n * x.toNat)))) (n * x.toNat) = 0)
    (hg : ¬ good n x.toNat (sg l) (un (Ty.S (r.take (Bt.need (n * x.toNat)))) x.toNat) = true) : (rdPacked n l).1 = 4 := by
  unfold rdPacked; rw [if_neg (by rw [h]; simp), hr]; simp only; rw [if_neg h64, if_neg hs]
  unfold Ty.S at hc hg
  rw [if_neg (by rw [hc]; simp), if_neg hg]
theorem Ig.rdP7 (h : (num l).2.2 = 0) (hr : rest l = x :: r) (h64 : ¬ 64 < x.toNat) (hs : ¬ r.length < Bt.need (n * x.toNat)) (hc : Bt.chk (Ty.S (r.take (Bt.need (n * x.toNat)))) (n * x.toNat) = 0)
    (hg : good n x.toNat (sg l) (un (Ty.S (r.take (Bt.need (n * x.toNat)))) x.toNat) = true) : rdPacked n l = (0, outs n (sg l) (un (Ty.S (r.take (Bt.need (n * x.toNat)))) x.toNat), r.drop (Bt.need (n * x.toNat))) := by
  unfold rdPacked; rw [if_neg (by rw [h]; simp), hr]; simp only; rw [if_neg h64, if_neg hs]
  unfold Ty.S at hc hg ⊢
  rw [if_neg (by rw [hc]; simp), if_pos hg]
end
/-- What the packed reader leaves. -/
def Ig.rdP (n : Nat) (l : List UInt8) : Nat × List Int × List UInt8 := if n = 0 then (0, [], l) else rdPacked n l
theorem Ig.outs_nth (n : Nat) (x : Int) (X : Nat → Nat) {i : Nat} (h : i < n) : nth (outs n x X) i = wrap64 (x + (X i : Int)) := by
  unfold nth outs
  rw [List.getD, List.getElem?_map, List.getElem?_range h]
  rfl
theorem Ig.outs_len (n : Nat) (x : Int) (X : Nat → Nat) : (outs n x X).length = n := by simp [outs]
theorem Ig.need_is {n q m : Nat} (h : n * q = m) : ((m : Int) + 7) / 8 = ((Bt.need (n * q) : Nat) : Int) := by unfold Bt.need; rw [h]; omega
/-- The packed reader by package packed's. -/
theorem Ig.pk_err {n : Nat} {l : List UInt8} (h : (num l).2.2 = 0) (he : Pk.err n (rest l) ≠ 0) : (rdPacked n l).1 = Pk.err n (rest l) := by
  cases hr : rest l with
  | nil => rw [Ig.rdP2 h hr, Pk.err1]
  | cons x r =>
    rw [hr] at he
    by_cases h1 : 64 < x.toNat
    · rw [Ig.rdP3 h hr h1, Pk.err2 h1]
    · by_cases h2 : r.length < Bt.need (n * x.toNat)
      · rw [Ig.rdP4 h hr h1 h2, Pk.err3 h1 h2]
      · by_cases h3 : Bt.chk (Ty.S (r.take (Bt.need (n * x.toNat)))) (n * x.toNat) = 0
        · by_cases h4 : Bt.wid n (Bt.nums (Ty.S (r.take (Bt.need (n * x.toNat)))) x.toNat) < x.toNat
          · rw [Pk.err5 h1 h2 h3 h4]
            refine Ig.rdP6 h hr h1 h2 h3 fun hg => ?_
            rw [Ig.un_nums] at hg
            unfold good at hg
            simp only [Bool.and_eq_true, beq_iff_eq] at hg
            omega
          · rw [Pk.err6 h1 h2 h3 h4] at he
            exact absurd rfl he
        · rw [Ig.rdP5 h hr h1 h2 h3, Pk.err4 h1 h2 h3]
theorem Ig.pk_bad {n : Nat} {l : List UInt8} (hn : 0 < n) (h : (num l).2.2 = 0) (he : Pk.err n (rest l) = 0) (hl : low (outs n (sg l) (Pk.X n (rest l))) ≠ sg l) : (rdPacked n l).1 = 4 := by
  obtain ⟨x, r, hr, h1, h2, h3, h4, hq, hX, hR⟩ := Pk.good he
  rw [hX] at hl
  refine Ig.rdP6 h hr (by omega) (by omega) h3 fun hg => hl ?_
  rw [Ig.un_nums] at hg
  exact ((Ig.good_is hn (fun _ => Nat.lt_of_lt_of_le (Bt.num_lt _ _) (Nat.pow_le_pow_right (by decide) h1))).1 hg).2
theorem Ig.pk_good {n : Nat} {l : List UInt8} (hn : 0 < n) (h : (num l).2.2 = 0) (he : Pk.err n (rest l) = 0) (hl : low (outs n (sg l) (Pk.X n (rest l))) = sg l) : rdPacked n l = (0, outs n (sg l) (Pk.X n (rest l)), Pk.rest n (rest l)) := by
  obtain ⟨x, r, hr, h1, h2, h3, h4, hq, hX, hR⟩ := Pk.good he
  rw [hX] at hl h4 ⊢
  rw [hR]
  refine Ig.rdP7 h hr (by omega) (by omega) h3 ?_
  rw [Ig.un_nums]
  exact (Ig.good_is hn (fun _ => Nat.lt_of_lt_of_le (Bt.num_lt _ _) (Nat.pow_le_pow_right (by decide) h1))).2 ⟨h4, hl⟩
set_option maxHeartbeats 4000000 in
set_option maxRecDepth 100000 in
theorem Ig.readPacked_c (b n : Nat) (l : List UInt8) (w : World) (hw : Ty.Tabs w) (h : Ty.Cur b w l 0) (hl : l.length ≤ 140737488355328) (hn : n ≤ 65536) :
    Calls Tryd.prog 67 #[.pointer (some ⟨b, 0, none⟩), .int .i64 n] w (Ig.Rd b w (Ig.rdP n l)) := by
  have hbw := h.lt
  by_cases hn0 : n = 0
  · subst hn0
    have e : Ig.rdP 0 l = (0, [], l) := by unfold Ig.rdP; rw [if_pos rfl]
    rw [e]
    go_enter Tryd.func67, Tryd.ntmps67
    go_wp2
    go_ret2
    exact Ig.Rd.good rfl (Ig.Own.nil _ _) h (Ty.by_refl _ _)
  · have e0 : Ig.rdP n l = rdPacked n l := by unfold Ig.rdP; rw [if_neg hn0]
    rw [e0]
    have hni : ((n : Int) == 0) = false := by rw [beq_eq_false_iff_ne]; omega
    have ci := Ig.cint_m b l w hw h (by omega)
    have hr0 := Ig.rest_le l
    have HN0 : Hid (0 < n) := Lib.hid (by omega)
    clear e0 hn0
    by_cases he : (num l).2.2 = 0
    · rw [he] at ci
      have crd := fun wz (hc : Ty.Cur b wz (rest l) 0) => Pk.read_c b n (rest l) wz hc (by omega) hn
      have F1 := Lib.hid (fun h => Ig.pk_err (n := n) he h)
      have F2 := Lib.hid (fun h h2 => Ig.pk_bad (n := n) HN0.out he h h2)
      have F3 := Lib.hid (fun h h2 => Ig.pk_good (n := n) HN0.out he h h2)
      have HXL : Hid (Pk.err n (rest l) = 0 → ∀ i, Pk.X n (rest l) i < 2 ^ 64) := Lib.hid (fun he => by
        obtain ⟨x, r, hr, h1, h2, h3, h4, hq, hX, hR⟩ := Pk.good he
        exact Pk.X_lt n _ (by omega))
      unfold Pk.Rd at crd
      generalize Pk.X n (rest l) = X at crd F2 F3 HXL
      generalize Pk.rest n (rest l) = l9 at crd F3
      generalize Pk.err n (rest l) = C at crd F1 F2 F3 HXL
      have hxi := Ig.sg_i64 l
      generalize sg l = y at ci F2 F3 hxi
      generalize rest l = l3 at ci crd
      clear he hr0 h
      by_cases hC : C = 0
      · subst hC
        have G2 := Lib.hid (F2.out rfl)
        have G3 := Lib.hid (F3.out rfl)
        have HX := Lib.hid (HXL.out rfl)
        have hmk := run_make_row' (P := Tryd.prog) 22 2 (.int .i64 0) 8 Tryd.underlying22 Ig.infoI rfl .i64 .i64 n (by omega) (by omega)
        clear F1 F2 F3 HXL
        go_enter Tryd.func67, Tryd.ntmps67
        go_wp2_with fail
        refine ci.mono ?_
        rintro e w3 ⟨rfl, hc3, hg3⟩
        have cr3 := crd _ hc3
        have HG3 := Lib.hid hg3
        clear ci crd hg3 hc3
        go_wp2_with fail
        refine cr3.mono ?_
        rintro e w8 ⟨vd, rfl, hgd, _, hg8⟩
        obtain ⟨hS8, hc8⟩ := hgd (by trivial)
        simp only [Int.natCast_zero]
        have HG8 := Lib.hid (Ty.by_trans HG3.out hg8)
        have HC8 := Lib.hid hc8
        have HS8 := Lib.hid hS8
        clear cr3 hg8 hc8 hgd HG3
        obtain ⟨a8, c8, rfl, h8⟩ := hS8
        go_wp2_with fail
        have hR : (w8.alloc (.cells (madeCells #[.int .i64 0] n) 2)).rowIs w8.heap.size 2 n (Bt.upTo 0 (Ig.iv (outs n y X)) (.int .i64 0)) := (World.rowIs_made w8 (.int .i64 0) n 2).congr fun i _ => by unfold Bt.upTo; rw [if_neg (by omega)]
        have hB : Below w8.heap.size w8 (w8.alloc (.cells (madeCells #[.int .i64 0] n) 2)) := (Below.refl _ _).alloc (Nat.le_refl _) _
        generalize w8.alloc (.cells (madeCells #[.int .i64 0] n) 2) = w9 at hR hB ⊢
        clear hmk
        generalize hg : w8.heap.size = g at hR hB
        have HGE := Lib.hid hg
        clear hg
        go_loopw [29] (fun i wr => ∃ k : Nat, k ≤ n ∧ i = .int .i64 k ∧ wr.rowIs g 2 n (Bt.upTo k (Ig.iv (outs n y X)) (.int .i64 0)) ∧ Below g w8 wr) (fun i _ => n - (intOf i).toNat)
        case atStart => exact ⟨0, by omega, rfl, hR, hB⟩
        case round =>
          obtain ⟨k, hk, rfl, hRk, hBk⟩ := hrel
          have HR := Lib.hid hRk
          have HBK := Lib.hid hBk
          clear hR hB hRk hBk
          by_cases hl2 : k < n
          · rcases h8 with h8 | ⟨b2, o2, rfl, hb2, h8⟩
            · omega
            · have hcell : wr.cell? ⟨b2, o2 + k, none⟩ = some (.int .u64 ((X k : Nat) : Int)) := (HBK.out.cell (p := ⟨b2, o2 + k, none⟩) (show b2 < g by have := HGE.out; omega)).trans (h8 k hl2)
              have hkl : (k : Int) < (n : Int) := by omega
              have hk0 : (0 : Int) ≤ (k : Int) := by omega
              have hf := HR.out.frozen k
              have hcl := HR.out.cell hl2
              have HO := Lib.hid (Ig.outs_nth n y X hl2)
              have HSW := Lib.hid (Ig.sum_wrap (x := y) (n := X k))
              generalize X k = X0 at hcell HO HSW
              clear h8
              go_wp2
              go_roundw
              case rel => exact ⟨k + 1, by omega, by simp, Bt.upTo_next HR.out (by unfold Ig.iv; rw [HO.out, ← HSW.out]), HBK.out.trans (Bt.below_set (Nat.le_refl _) _)⟩
              case measure => simp [intOf]; omega
          · obtain rfl : k = n := by omega
            have hkl : ¬ (k : Int) < (k : Int) := by omega
            have hrow : wr.rowIs g 2 k (Ig.iv (outs k y X)) := HR.out.congr fun i hi => by unfold Bt.upTo; rw [if_pos hi]
            have hge := HGE.out
            have hb8 : Below w8.heap.size w8 wr := by rw [hge]; exact HBK.out
            have hown := Ig.own_row (base := w.heap.size) hrow (Ig.outs_len k y X) (by have := HG8.out.size; omega) (by unfold maxLen; omega)
            have HOW := Lib.hid hown
            have HGW := Lib.hid (Ig.below_by hb8 HG8.out)
            have HCW := Lib.hid (HC8.out.below hb8 (by have := HG8.out.size; omega))
            have hat := Ig.Own.at hown
            have hlo := Ig.outs_len k y X
            have cm := Ig.min_c _ (outs k y X) wr hat (by rw [hlo]; exact HN0.out) (by rw [hlo]; omega)
            clear hrow hown hb8 h8 hge hat hlo
            by_cases hly : low (outs k y X) = y
            · have HE := Lib.hid (G3.out hly)
              rw [hly] at cm
              have hyy : (y != y) = false := by simp
              clear hly
              go_wp2_with fail
              refine cm.mono ?_
              rintro e w10 ⟨rfl, rfl⟩
              go_wp2
              go_ret2
              exact Ig.Rd.good (by rw [HE.out]) (by rw [HE.out]; exact HOW.out) (by rw [HE.out]; exact HCW.out) HGW.out
            · have HB := Lib.hid (G2.out hly)
              have hyy : (low (outs k y X) != y) = true := by rw [bne_iff_ne]; exact hly
              generalize low (outs k y X) = z at cm hyy hly
              clear hly
              go_wp2_with fail
              refine cm.mono ?_
              rintro e w10 ⟨rfl, rfl⟩
              go_wp2
              go_ret2
              exact Ig.Rd.bad (by rw [HB.out]; rfl) (by rw [HB.out]; omega) HGW.out
      · have HB := Lib.hid (F1.out hC)
        have hCi : ((C : Int) != 0) = true := by rw [bne_iff_ne]; omega
        have HC := Lib.hid hC
        clear F1 F2 F3 HXL hC
        go_enter Tryd.func67, Tryd.ntmps67
        go_wp2_with fail
        refine ci.mono ?_
        rintro e w3 ⟨rfl, hc3, hg3⟩
        have cr3 := crd _ hc3
        have HG3 := Lib.hid hg3
        clear ci crd hg3 hc3
        go_wp2_with fail
        refine cr3.mono ?_
        rintro e w8 ⟨vd, rfl, _, hbd, hg8⟩
        obtain rfl := hbd HC.out
        have HG8 := Lib.hid (Ty.by_trans HG3.out hg8)
        clear cr3 hg8 hbd HG3
        go_wp2
        go_ret2
        exact Ig.Rd.bad (by rw [HB.out]) (by rw [HB.out]; exact HC.out) HG8.out
    · have HB := Lib.hid (Ig.rdP1 (n := n) he)
      have crd := fun wz (hc : Ty.Cur b wz (rest l) (num l).2.2) => Pk.read_bad b n (num l).2.2 (rest l) wz hc he (by omega)
      generalize (num l).2.2 = q at ci he HB crd
      have hne : ((q : Int) != 0) = true := by rw [bne_iff_ne]; omega
      have HQ := Lib.hid he
      generalize rest l = l3 at ci crd hr0
      clear he h
      go_enter Tryd.func67, Tryd.ntmps67
      go_wp2_with fail
      refine ci.mono ?_
      rintro e w3 ⟨rfl, hc3, hg3⟩
      have cr3 := crd _ hc3
      have HG3 := Lib.hid hg3
      clear ci crd hg3 hc3 hr0
      go_wp2_with fail
      refine cr3.mono ?_
      rintro e w8 ⟨rfl, hg8⟩
      have HG8 := Lib.hid (Ty.by_trans HG3.out hg8)
      clear cr3 hg8 HG3
      go_wp2
      go_ret2
      exact Ig.Rd.bad (by rw [HB.out]) (by rw [HB.out]; exact HQ.out) HG8.out
end Go.Proofs.YtkgmildbhelelaaDoor
