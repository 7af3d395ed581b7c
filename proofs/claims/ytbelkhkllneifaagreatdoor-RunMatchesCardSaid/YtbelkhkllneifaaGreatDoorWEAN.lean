import Derived.Test.YtbelkhkllneifaaGreatDoorWEAM
import Derived.Lib.QuietBelow
import Derived.RegionCalls
import Derived.Deep.RegionWith
namespace Go.Proofs.YtbelkhkllneifaaGreatDoor
section
open Go.RowKit
open Ig (nth encI encR grp diffs prv low off sg rest rdInts acc rdRuns spread outs good un rdPacked)
open Ty (encU num)
section
variable {n : Nat} {l r : List UInt8} {x : UInt8}
theorem Ig.rdP1 (h : (num l).2.2 ≠ 0) : (rdPacked n l).1 = (num l).2.2 := by unfold rdPacked; rw [if_pos h]
theorem Ig.rdP2 (h : (num l).2.2 = 0) (hr : rest l = []) : (rdPacked n l).1 = 2 := by unfold rdPacked; rw [if_neg (by rw [h]; simp), hr]
theorem Ig.rdP3 (h : (num l).2.2 = 0) (hr : rest l = x :: r) (h64 : 64 < x.toNat) : (rdPacked n l).1 = 4 := by
 unfold rdPacked; rw [if_neg (by rw [h]; simp), hr]; simp only; rw [if_pos h64]
theorem Ig.rdP4 (h : (num l).2.2 = 0) (hr : rest l = x :: r) (h64 : ¬ 64 < x.toNat) (hs : r.length < Bt.need (n * x.toNat)) : (rdPacked n l).1 = 2 := by
 unfold rdPacked; rw [if_neg (by rw [h]; simp), hr]; simp only; rw [if_neg h64, if_pos hs]
theorem Ig.rdP5 (h : (num l).2.2 = 0) (hr : rest l = x :: r) (h64 : ¬ 64 < x.toNat) (hs : ¬ r.length < Bt.need (n * x.toNat)) (hc : Bt.chk (Ty.S (r.take (Bt.need (n * x.toNat)))) (n * x.toNat) ≠ 0) : (rdPacked n l).1 = Bt.chk (Ty.S (r.take (Bt.need (n * x.toNat)))) (n * x.toNat) := by
 unfold rdPacked; rw [if_neg (by rw [h]; simp), hr]; simp only; rw [if_neg h64, if_neg hs]
 unfold Ty.S at hc ⊢
 rw [if_pos hc]
theorem Ig.rdP6 (h : (num l).2.2 = 0) (hr : rest l = x :: r) (h64 : ¬ 64 < x.toNat) (hs : ¬ r.length < Bt.need (n * x.toNat)) (hc : Bt.chk (Ty.S (r.take (Bt.need (n * x.toNat)))) (n * x.toNat) = 0)
 (hg : ¬ good n x.toNat (sg l) (un (Ty.S (r.take (Bt.need (n * x.toNat)))) x.toNat) = true) : (rdPacked n l).1 = 4 := by
 unfold rdPacked; rw [if_neg (by rw [h]; simp), hr]; simp only; rw [if_neg h64, if_neg hs]
 unfold Ty.S at hc hg
 rw [if_neg (by rw [hc]; simp), if_neg hg]
theorem Ig.rdP7 (h : (num l).2.2 = 0) (hr : rest l = x :: r) (h64 : ¬ 64 < x.toNat) (hs : ¬ r.length < Bt.need (n * x.toNat)) (hc : Bt.chk (Ty.S (r.take (Bt.need (n * x.toNat)))) (n * x.toNat) = 0)
 (hg : good n x.toNat (sg l) (un (Ty.S (r.take (Bt.need (n * x.toNat)))) x.toNat) = true) : rdPacked n l = (0, outs n (sg l) (un (Ty.S (r.take (Bt.need (n * x.toNat)))) x.toNat), r.drop (Bt.need (n * x.toNat))) := by
 unfold rdPacked; rw [if_neg (by rw [h]; simp), hr]; simp only; rw [if_neg h64, if_neg hs]
 unfold Ty.S at hc hg ⊢
 rw [if_neg (by rw [hc]; simp), if_pos hg]
end
def Ig.rdP (n : Nat) (l : List UInt8) : Nat × List Int × List UInt8 := if n = 0 then (0, [], l) else rdPacked n l
theorem Ig.outs_nth (n : Nat) (x : Int) (X : Nat → Nat) {i : Nat} (h : i < n) : nth (outs n x X) i = wrap64 (x + (X i : Int)) := by
 unfold nth outs
 rw [List.getD, List.getElem?_map, List.getElem?_range h]
 rfl
theorem Ig.outs_len (n : Nat) (x : Int) (X : Nat → Nat) : (outs n x X).length = n := by simp [outs]
theorem Ig.pk_err {n : Nat} {l : List UInt8} (h : (num l).2.2 = 0) (he : Pk.err n (rest l) ≠ 0) : (rdPacked n l).1 = Pk.err n (rest l) := by
 cases hr : rest l with
 | nil => rw [Ig.rdP2 h hr, Pk.err1]
 | cons x r =>
   rw [hr] at he
   by_cases h1 : 64 < x.toNat
   ·rw [Ig.rdP3 h hr h1, Pk.err2 h1]
   ·by_cases h2 : r.length < Bt.need (n * x.toNat)
    ·rw [Ig.rdP4 h hr h1 h2, Pk.err3 h1 h2]
    ·by_cases h3 : Bt.chk (Ty.S (r.take (Bt.need (n * x.toNat)))) (n * x.toNat) = 0
     ·by_cases h4 : Bt.wid n (Bt.nums (Ty.S (r.take (Bt.need (n * x.toNat)))) x.toNat) < x.toNat
      ·rw [Pk.err5 h1 h2 h3 h4]
       refine Ig.rdP6 h hr h1 h2 h3 fun hg => ?_
       rw [Ig.un_nums] at hg
       unfold good at hg
       simp only [Bool.and_eq_true, beq_iff_eq] at hg
       omega
      ·rw [Pk.err6 h1 h2 h3 h4] at he
       exact absurd rfl he
     ·rw [Ig.rdP5 h hr h1 h2 h3, Pk.err4 h1 h2 h3]
theorem Ig.pk_bad {n : Nat} {l : List UInt8} (hn : 0 < n) (h : (num l).2.2 = 0) (he : Pk.err n (rest l) = 0) (hl : low (outs n (sg l) (Pk.X n (rest l))) ≠ sg l) : (rdPacked n l).1 = 4 := by
 obtain ⟨x, r, hr, h1, h2, h3, h4, hq, hX, hR⟩ := Pk.good he
 rw [hX] at hl
 refine Ig.rdP6 h hr (by omega) (by omega) h3 fun hg => hl ?_
 rw [Ig.un_nums] at hg
 exact ((Ig.good_is hn (fun _ => Nat.lt_of_lt_of_le (Bt.num_lt _ _) (Nat.pow_le_pow_right (by decide) h1))).1 hg).2
theorem Ig.pk_good {n : Nat} {l : List UInt8} (hn : 0 < n) (h : (num l).2.2 = 0) (he : Pk.err n (rest l) = 0) (hl : low (outs n (sg l) (Pk.X n (rest l))) = sg l) : rdPacked n l = (0, outs n (sg l) (Pk.X n (rest l)), Pk.rest n (rest l)) := by
 obtain ⟨x, r, hr, h1, h2, h3, h4, hq, hX, hR⟩ := Pk.good he
 rw [hX] at hl h4 ⊢
 rw [hR]
 refine Ig.rdP7 h hr (by omega) (by omega) h3 ?_
 rw [Ig.un_nums]
 exact (Ig.good_is hn (fun _ => Nat.lt_of_lt_of_le (Bt.num_lt _ _) (Nat.pow_le_pow_right (by decide) h1))).2 ⟨h4, hl⟩
set_option maxHeartbeats 4000000 in
set_option maxRecDepth 100000 in
theorem Ig.readPacked_c (b n : Nat) (l : List UInt8) (w : World) (hw : Ty.Tabs w) (h : Ty.Cur b w l 0) (hl : l.length ≤ 140737488355328) (hn : n ≤ 65536) :
 Calls Tryz.prog 185 #[.pointer (some ⟨b, 0, none⟩), .int .i64 n] w (Ig.Rd b w (Ig.rdP n l)) := by
 have hbw := h.lt
 by_cases hn0 : n = 0
 ·subst hn0
  have e : Ig.rdP 0 l = (0, [], l) := by unfold Ig.rdP; rw [if_pos rfl]
  rw [e]
  go_enter Tryz.func185, Tryz.ntmps185
  go_wp2
  go_ret2
  exact Ig.Rd.good rfl (Ig.Own.nil _ _) h (Ty.by_refl _ _)
 ·have e0 : Ig.rdP n l = rdPacked n l := by unfold Ig.rdP; rw [if_neg hn0]
  rw [e0]
  have hni : ((n : Int) == 0) = false := by rw [beq_eq_false_iff_ne]; omega
  have ci := Ig.cint_m b l w hw h (by omega)
  have hr0 := Ig.rest_le l
  have HN0 : Hid (0 < n) := Lib.hid (by omega)
  clear e0 hn0
  by_cases he : (num l).2.2 = 0
  ·rw [he] at ci
   have crd := fun wz (hc : Ty.Cur b wz (rest l) 0) => Pk.read_c b n (rest l) wz hc (by omega) hn
   have F1 := Lib.hid (fun h => Ig.pk_err (n := n) he h)
   have F2 := Lib.hid (fun h h2 => Ig.pk_bad (n := n) HN0.out he h h2)
   have F3 := Lib.hid (fun h h2 => Ig.pk_good (n := n) HN0.out he h h2)
   have HXL : Hid (Pk.err n (rest l) = 0 → ∀ i, Pk.X n (rest l) i < 2 ^ 64) := Lib.hid (fun he => by
    obtain ⟨x, r, hr, h1, h2, h3, h4, hq, hX, hR⟩ := Pk.good he
    exact Pk.X_lt n _ (by omega))
   unfold Pk.Rd at crd
   generalize Pk.X n (rest l) = X at crd F2 F3 HXL
   generalize Pk.rest n (rest l) = l9 at crd F3
   generalize Pk.err n (rest l) = C at crd F1 F2 F3 HXL
   have hxi := Ig.sg_i64 l
   generalize sg l = y at ci F2 F3 hxi
   generalize rest l = l3 at ci crd
   clear he hr0 h
   by_cases hC : C = 0
   ·subst hC
    have G2 := Lib.hid (F2.out rfl)
    have G3 := Lib.hid (F3.out rfl)
    have HX := Lib.hid (HXL.out rfl)
    have hmk := run_make_row' (P := Tryz.prog) 187 2 (.int .i64 0) 8 Tryz.underlying187 Ig.infoI rfl .i64 .i64 n (by omega) (by omega)
    clear F1 F2 F3 HXL
    go_enter Tryz.func185, Tryz.ntmps185
    go_wp2_with fail
    refine ci.mono ?_
    rintro e w3 ⟨rfl, hc3, hg3⟩
    have cr3 := crd _ hc3
    have HG3 := Lib.hid hg3
    clear ci crd hg3 hc3
    go_wp2_with fail
    refine cr3.mono ?_
    rintro e w8 ⟨vd, rfl, hgd, _, hg8⟩
    obtain ⟨hS8, hc8⟩ := hgd (by trivial)
    simp only [Int.natCast_zero]
    have HG8 := Lib.hid (Ty.by_trans HG3.out hg8)
    have HC8 := Lib.hid hc8
    have HS8 := Lib.hid hS8
    clear cr3 hg8 hc8 hgd HG3
    obtain ⟨a8, c8, rfl, h8⟩ := hS8
    go_wp2_with fail
    have hR : (w8.alloc (.cells (madeCells #[.int .i64 0] n) 2)).rowIs w8.heap.size 2 n (Bt.upTo 0 (Ig.iv (outs n y X)) (.int .i64 0)) := (World.rowIs_made w8 (.int .i64 0) n 2).congr fun i _ => by unfold Bt.upTo; rw [if_neg (by omega)]
    have hB : Below w8.heap.size w8 (w8.alloc (.cells (madeCells #[.int .i64 0] n) 2)) := (Below.refl _ _).alloc (Nat.le_refl _) _
    generalize w8.alloc (.cells (madeCells #[.int .i64 0] n) 2) = w9 at hR hB ⊢
    clear hmk
    generalize hg : w8.heap.size = g at hR hB
    have HGE := Lib.hid hg
    clear hg
    go_loopw [29] (fun i wr => ∃ k : Nat, k ≤ n ∧ i = .int .i64 k ∧ wr.rowIs g 2 n (Bt.upTo k (Ig.iv (outs n y X)) (.int .i64 0)) ∧ Below g w8 wr) (fun i _ => n - (intOf i).toNat)
    case atStart => exact ⟨0, by omega, rfl, hR, hB⟩
    case round =>
     obtain ⟨k, hk, rfl, hRk, hBk⟩ := hrel
     have HR := Lib.hid hRk
     have HBK := Lib.hid hBk
     clear hR hB hRk hBk
     by_cases hl2 : k < n
     ·rcases h8 with h8 | ⟨b2, o2, rfl, hb2, h8⟩
      ·omega
      ·have hcell : wr.cell? ⟨b2, o2 + k, none⟩ = some (.int .u64 ((X k : Nat) : Int)) := (HBK.out.cell (p := ⟨b2, o2 + k, none⟩) (show b2 < g by have := HGE.out; omega)).trans (h8 k hl2)
       have hkl : (k : Int) < (n : Int) := by omega
       have hk0 : (0 : Int) ≤ (k : Int) := by omega
       have hf := HR.out.frozen k
       have hcl := HR.out.cell hl2
       have HO := Lib.hid (Ig.outs_nth n y X hl2)
       have HSW := Lib.hid (Ig.sum_wrap (x := y) (n := X k))
       generalize X k = X0 at hcell HO HSW
       clear h8
       go_wp2
       go_roundw
       case rel => exact ⟨k + 1, by omega, by simp, Bt.upTo_next HR.out (by unfold Ig.iv; rw [HO.out, ← HSW.out]), HBK.out.trans (Bt.below_set (Nat.le_refl _) _)⟩
       case measure => simp [intOf]; omega
     ·obtain rfl : k = n := by omega
      have hkl : ¬ (k : Int) < (k : Int) := by omega
      have hrow : wr.rowIs g 2 k (Ig.iv (outs k y X)) := HR.out.congr fun i hi => by unfold Bt.upTo; rw [if_pos hi]
      have hge := HGE.out
      have hb8 : Below w8.heap.size w8 wr := by rw [hge]; exact HBK.out
      have hown := Ig.own_row (base := w.heap.size) hrow (Ig.outs_len k y X) (by have := HG8.out.size; omega) (by unfold maxLen; omega)
      have HOW := Lib.hid hown
      have HGW := Lib.hid (Ig.below_by hb8 HG8.out)
      have HCW := Lib.hid (HC8.out.below hb8 (by have := HG8.out.size; omega))
      have hat := Ig.Own.at hown
      have hlo := Ig.outs_len k y X
      have cm := Ig.min_c _ (outs k y X) wr hat (by rw [hlo]; exact HN0.out) (by rw [hlo]; omega)
      clear hrow hown hb8 h8 hge hat hlo
      by_cases hly : low (outs k y X) = y
      ·have HE := Lib.hid (G3.out hly)
       rw [hly] at cm
       have hyy : (y != y) = false := by simp
       clear hly
       go_wp2_with fail
       refine cm.mono ?_
       rintro e w10 ⟨rfl, rfl⟩
       go_wp2
       go_ret2
       exact Ig.Rd.good (by rw [HE.out]) (by rw [HE.out]; exact HOW.out) (by rw [HE.out]; exact HCW.out) HGW.out
      ·have HB := Lib.hid (G2.out hly)
       have hyy : (low (outs k y X) != y) = true := by rw [bne_iff_ne]; exact hly
       generalize low (outs k y X) = z at cm hyy hly
       clear hly
       go_wp2_with fail
       refine cm.mono ?_
       rintro e w10 ⟨rfl, rfl⟩
       go_wp2
       go_ret2
       exact Ig.Rd.bad (by rw [HB.out]; rfl) (by rw [HB.out]; omega) HGW.out
   ·have HB := Lib.hid (F1.out hC)
    have hCi : ((C : Int) != 0) = true := by rw [bne_iff_ne]; omega
    have HC := Lib.hid hC
    clear F1 F2 F3 HXL hC
    go_enter Tryz.func185, Tryz.ntmps185
    go_wp2_with fail
    refine ci.mono ?_
    rintro e w3 ⟨rfl, hc3, hg3⟩
    have cr3 := crd _ hc3
    have HG3 := Lib.hid hg3
    clear ci crd hg3 hc3
    go_wp2_with fail
    refine cr3.mono ?_
    rintro e w8 ⟨vd, rfl, _, hbd, hg8⟩
    obtain rfl := hbd HC.out
    have HG8 := Lib.hid (Ty.by_trans HG3.out hg8)
    clear cr3 hg8 hbd HG3
    go_wp2
    go_ret2
    exact Ig.Rd.bad (by rw [HB.out]) (by rw [HB.out]; exact HC.out) HG8.out
  ·have HB := Lib.hid (Ig.rdP1 (n := n) he)
   have crd := fun wz (hc : Ty.Cur b wz (rest l) (num l).2.2) => Pk.read_bad b n (num l).2.2 (rest l) wz hc he (by omega)
   generalize (num l).2.2 = q at ci he HB crd
   have hne : ((q : Int) != 0) = true := by rw [bne_iff_ne]; omega
   have HQ := Lib.hid he
   generalize rest l = l3 at ci crd hr0
   clear he h
   go_enter Tryz.func185, Tryz.ntmps185
   go_wp2_with fail
   refine ci.mono ?_
   rintro e w3 ⟨rfl, hc3, hg3⟩
   have cr3 := crd _ hc3
   have HG3 := Lib.hid hg3
   clear ci crd hg3 hc3 hr0
   go_wp2_with fail
   refine cr3.mono ?_
   rintro e w8 ⟨rfl, hg8⟩
   have HG8 := Lib.hid (Ty.by_trans HG3.out hg8)
   clear cr3 hg8 HG3
   go_wp2
   go_ret2
   exact Ig.Rd.bad (by rw [HB.out]) (by rw [HB.out]; exact HQ.out) HG8.out
end
section
open Go.RowKit
open Ig (nth sg rest rd rdBody rdInts)
open Ty (num)
def Ig.Got (w : World) (r : Nat × List Int) (e : Ending) (w' : World) : Prop :=
 ∃ v, e = .returned (.tuple #[v, .int .i64 ((r.1 : Nat) : Int)]) ∧ Ig.At w'.heap.size w' v r.2 ∧ Below w.heap.size w w'
theorem Ig.at_nil (B : Nat) (w : World) (h : B ≤ w.heap.size) : Ig.At B w (.slice none 0 0) [] := ⟨_, 0, rfl, Nat.le_refl _, h, .inl rfl⟩
theorem Ig.Got.bad {w w' : World} {r : Nat × List Int} {z : Int} {q : Nat} (hr : r = (q, [])) (hz : z = (q : Int)) (g : Below w.heap.size w w') : Ig.Got w r (.returned (.tuple #[.slice none 0 0, .int .i64 z])) w' :=
 ⟨_, by rw [hr, hz], by rw [hr]; exact Ig.at_nil _ _ (Nat.le_refl _), g⟩
theorem Ig.Got.good {w w' : World} {r : Nat × List Int} {v : Value} {L : List Int} (hr : r = (0, L)) (h : Ig.At w'.heap.size w' v L) (g : Below w.heap.size w w') : Ig.Got w r (.returned (.tuple #[v, .int .i64 0])) w' :=
 ⟨v, by rw [hr]; rfl, by rw [hr]; exact h, g⟩
section
variable {x : UInt8} {r : List UInt8}
theorem Ig.rd1 (h : 3 < x.toNat) : rd (x :: r) = (4, []) := by unfold rd; simp only; rw [if_pos h]
theorem Ig.rd2 (h : ¬ 3 < x.toNat) (h2 : (num r).2.2 ≠ 0) : rd (x :: r) = ((num r).2.2, []) := by unfold rd; simp only; rw [if_neg h, if_pos h2]
theorem Ig.rd3 (h : ¬ 3 < x.toNat) (h2 : (num r).2.2 = 0) (h3 : 65536 < (num r).1) : rd (x :: r) = (3, []) := by unfold rd; simp only; rw [if_neg h, if_neg (by rw [h2]; simp), if_pos h3]
theorem Ig.rd4 (h : ¬ 3 < x.toNat) (h2 : (num r).2.2 = 0) (h3 : ¬ 65536 < (num r).1) (h4 : (rdBody x.toNat (num r).1 (rest r)).1 ≠ 0) : rd (x :: r) = ((rdBody x.toNat (num r).1 (rest r)).1, []) := by
 unfold rd; simp only; rw [if_neg h, if_neg (by rw [h2]; simp), if_neg h3, if_pos h4]
theorem Ig.rd5 (h : ¬ 3 < x.toNat) (h2 : (num r).2.2 = 0) (h3 : ¬ 65536 < (num r).1) (h4 : (rdBody x.toNat (num r).1 (rest r)).1 = 0) (h5 : (rdBody x.toNat (num r).1 (rest r)).2.2 ≠ []) : rd (x :: r) = (5, []) := by
 unfold rd; simp only; rw [if_neg h, if_neg (by rw [h2]; simp), if_neg h3, if_neg (by rw [h4]; simp), if_pos h5]
theorem Ig.rd6 (h : ¬ 3 < x.toNat) (h2 : (num r).2.2 = 0) (h3 : ¬ 65536 < (num r).1) (h4 : (rdBody x.toNat (num r).1 (rest r)).1 = 0) (h5 : (rdBody x.toNat (num r).1 (rest r)).2.2 = []) : rd (x :: r) = (0, (rdBody x.toNat (num r).1 (rest r)).2.1) := by
 unfold rd; simp only; rw [if_neg h, if_neg (by rw [h2]; simp), if_neg h3, if_neg (by rw [h4]; simp), if_neg (by rw [h5]; simp)]
end
theorem Ig.reader0 (b n : Nat) (l : List UInt8) (w : World) (hw : Ty.Tabs w) (hG : Ty.G ≤ b) (h : Ty.Cur b w l 0) (hl : l.length ≤ 140737488355328) (hn : n ≤ 65536) :
 Calls Tryz.prog 179 #[.pointer (some ⟨b, 0, none⟩), .int .i64 n] w (Ig.Rd b w (rdBody 0 n l)) := Ig.readPlain_c b n l w hw hG h hl hn
theorem Ig.reader1 (b n : Nat) (l : List UInt8) (w : World) (hw : Ty.Tabs w) (hG : Ty.G ≤ b) (h : Ty.Cur b w l 0) (hl : l.length ≤ 140737488355328) (hn : n ≤ 65536) :
 Calls Tryz.prog 181 #[.pointer (some ⟨b, 0, none⟩), .int .i64 n] w (Ig.Rd b w (rdBody 1 n l)) := Ig.readDelta_c b n l w hw hG h hl hn
theorem Ig.reader2 (b n : Nat) (l : List UInt8) (w : World) (hw : Ty.Tabs w) (hG : Ty.G ≤ b) (h : Ty.Cur b w l 0) (hl : l.length ≤ 140737488355328) (hn : n ≤ 65536) :
 Calls Tryz.prog 183 #[.pointer (some ⟨b, 0, none⟩), .int .i64 n] w (Ig.Rd b w (rdBody 2 n l)) := Ig.readRuns_c b n l w hw hG h hl hn
theorem Ig.reader3 (b n : Nat) (l : List UInt8) (w : World) (hw : Ty.Tabs w) (h : Ty.Cur b w l 0) (hl : l.length ≤ 140737488355328) (hn : n ≤ 65536) :
 Calls Tryz.prog 185 #[.pointer (some ⟨b, 0, none⟩), .int .i64 n] w (Ig.Rd b w (rdBody 3 n l)) := Ig.readPacked_c b n l w hw h hl hn
set_option maxHeartbeats 4000000 in
set_option maxRecDepth 100000 in
theorem Ig.read_c (s : ByteArray) (w : World) (hw : Ty.Tabs w) (hs : s.size ≤ 140737488355328) :
 Calls Tryz.prog 192 #[.string s] w (Ig.Got w (rd s.data.toList)) := by
 have hsl : s = Ty.S s.data.toList := rfl
 have hll : s.data.toList.length ≤ 140737488355328 := by rw [Ty.length_data]; exact hs
 rw [hsl, Ty.data_S]
 generalize s.data.toList = l at hll ⊢
 clear hsl hs
 have cf := Ty.from_f l w hw
 have hG := hw.two
 cases l with
 | nil =>
   have HR : Hid (rd [] = (2, [])) := Lib.hid rfl
   have e1 : Ty.rdB [] 0 = (0, [], 2) := rfl
   have e2 : Ty.rdU [] 2 = (0, [], 2) := rfl
   have cb := fun b wz (hc : Ty.Cur b wz [] 0) => Ty.cbyte_c b [] 0 wz hc (by simp)
   have cu := fun b wz (hT : Ty.Tabs wz) (hc : Ty.Cur b wz [] 2) => Ty.cuint_c b [] 2 wz hT hc (by simp)
   rw [e1] at cb
   rw [e2] at cu
   clear e1 e2 hll
   go_enter Tryz.func192, Tryz.ntmps192
   go_wp2_with fail
   refine cf.mono ?_
   rintro e w1 ⟨rfl, hc1, hT1, hg1⟩
   have hs1 := hg1.size
   have cb1 := cb _ _ hc1
   have HB1 := Lib.hid (Ty.below_none hg1 (Nat.le_refl _))
   clear cf cb hc1 hg1
   go_wp2_with fail
   refine cb1.mono ?_
   rintro e w2 ⟨rfl, hc2, hg2⟩
   have hT2 := hT1.at_ hg2 hG
   have hb2 := HB1.out.trans (Ty.below_at (B := w.heap.size) hg2 hs1 (Nat.le_refl _))
   have HC2 := Lib.hid hc2
   clear cb1 hc2 hg2 hT1
   go_wp2_with fail
   refine (Ig.coders_c _).mono ?_
   rintro e w3 ⟨rfl, hw3⟩
   have hb23 : Below w2.heap.size w2 w3 := by rw [hw3]; exact (Below.refl _ _).alloc (Nat.le_refl _) _
   clear hw3
   have hlt2 := HC2.out.lt
   have hb3 := hb2.trans (hb23.mono hb2.size)
   have hT3 := hT2.below hb23 (by omega)
   have hc3 := HC2.out.below hb23 hlt2
   have cu3 := cu _ _ hT3 hc3
   have HB3 := Lib.hid hb3
   have hs3 := hb3.size
   clear hb23 hb2 hb3 hT2 hT3 hc3 cu
   go_wp2_with fail
   refine cu3.mono ?_
   rintro e w4 ⟨rfl, hc4, hg4⟩
   have HC4 := Lib.hid hc4
   have HB4 := Lib.hid (HB3.out.trans (Ty.below_at (B := w.heap.size) hg4 hs3 (Nat.le_refl _)))
   clear cu3 hc4 hg4
   go_wp2_with fail
   refine (Ty.err_c _ _ 2 _ HC4.out).mono ?_
   rintro e w5 ⟨rfl, rfl⟩
   go_wp2_with fail
   refine (Ty.err_c _ _ 2 _ HC4.out).mono ?_
   rintro e w5 ⟨rfl, rfl⟩
   go_wp2
   go_ret2
   exact Ig.Got.bad HR.out rfl HB4.out
 | cons x r =>
   have hrl : r.length ≤ 140737488355328 := by rw [List.length_cons] at hll; omega
   have cb := fun b wz (hc : Ty.Cur b wz (x :: r) 0) => Pk.cbyte_m b x r wz hc (by omega)
   by_cases h3 : 3 < x.toNat
   ·have HR := Lib.hid (Ig.rd1 (r := r) h3)
    have h3i : (4 : Int) ≤ (x.toNat : Int) := by omega
    clear h3
    go_enter Tryz.func192, Tryz.ntmps192
    go_wp2_with fail
    refine cf.mono ?_
    rintro e w1 ⟨rfl, hc1, hT1, hg1⟩
    have hs1 := hg1.size
    have cb1 := cb _ _ hc1
    have HB1 := Lib.hid (Ty.below_none hg1 (Nat.le_refl _))
    clear cf cb hc1 hg1
    go_wp2_with fail
    refine cb1.mono ?_
    rintro e w2 ⟨rfl, hc2, hg2⟩
    have hb2 := HB1.out.trans (Ty.below_at (B := w.heap.size) hg2 hs1 (Nat.le_refl _))
    clear cb1 hc2 hg2 hT1
    go_wp2_with fail
    refine (Ig.coders_c _).mono ?_
    rintro e w3 ⟨rfl, hw3⟩
    have HB3 : Hid (Below w.heap.size w w3) := Lib.hid (by rw [hw3]; exact hb2.alloc hb2.size _)
    clear hw3 hb2
    go_wp2
    go_ret2
    exact Ig.Got.bad HR.out rfl HB3.out
   ·have h3i : (x.toNat : Int) < 4 := by omega
    have cu := fun b wz (hT : Ty.Tabs wz) (hc : Ty.Cur b wz r 0) => Ig.cuint_m b r wz hT hc (by omega)
    by_cases he : (num r).2.2 = 0
    ·have hr3 := Ig.rest_le r
     have hl3 : (rest r).length ≤ 140737488355328 := by omega
     rw [he] at cu
     by_cases hnl : 65536 < (num r).1
     ·have HR := Lib.hid (Ig.rd3 (r := r) h3 he hnl)
      generalize (num r).1 = n at cu hnl
      generalize rest r = l3 at cu hl3
      have hni : (65536 : Int) < (n : Int) := by omega
      clear he h3 hnl hr3
      go_enter Tryz.func192, Tryz.ntmps192
      go_wp2_with fail
      refine cf.mono ?_
      rintro e w1 ⟨rfl, hc1, hT1, hg1⟩
      have hs1 := hg1.size
      have cb1 := cb _ _ hc1
      have HB1 := Lib.hid (Ty.below_none hg1 (Nat.le_refl _))
      clear cf cb hc1 hg1
      go_wp2_with fail
      refine cb1.mono ?_
      rintro e w2 ⟨rfl, hc2, hg2⟩
      have hT2 := hT1.at_ hg2 hG
      have hb2 := HB1.out.trans (Ty.below_at (B := w.heap.size) hg2 hs1 (Nat.le_refl _))
      have HC2 := Lib.hid hc2
      clear cb1 hc2 hg2 hT1
      go_wp2_with fail
      refine (Ig.coders_c _).mono ?_
      rintro e w3 ⟨rfl, hw3⟩
      have hb23 : Below w2.heap.size w2 w3 := by rw [hw3]; exact (Below.refl _ _).alloc (Nat.le_refl _) _
      clear hw3
      have hlt2 := HC2.out.lt
      have hb3 := hb2.trans (hb23.mono hb2.size)
      have hT3 := hT2.below hb23 (by omega)
      have hc3 := HC2.out.below hb23 hlt2
      have cu3 := cu _ _ hT3 hc3
      have HB3 := Lib.hid hb3
      have hs3 := hb3.size
      clear hb23 hb2 hb3 hT2 hc3 cu
      go_wp2_with fail
      refine cu3.mono ?_
      rintro e w4 ⟨rfl, hc4, hg4⟩
      have HC4 := Lib.hid hc4
      have hT4 := hT3.at_ hg4 hG
      have HB4 := Lib.hid (HB3.out.trans (Ty.below_at (B := w.heap.size) hg4 hs3 (Nat.le_refl _)))
      clear cu3 hc4 hg4 hT3
      go_wp2_with fail
      refine (Ty.err_c _ _ 0 _ HC4.out).mono ?_
      rintro e w5 ⟨rfl, rfl⟩
      go_wp2
      go_ret2
      exact Ig.Got.bad HR.out rfl HB4.out
     ·have hnl : (num r).1 ≤ 65536 := by omega
      obtain ⟨K, hK⟩ : ∃ K, K = x.toNat := ⟨_, rfl⟩
      have G4 := Lib.hid (fun h4 => Ig.rd4 (r := r) h3 he (by omega) h4)
      have G5 := Lib.hid (fun h4 h5 => Ig.rd5 (r := r) h3 he (by omega) h4 h5)
      have G6 := Lib.hid (fun h4 h5 => Ig.rd6 (r := r) h3 he (by omega) h4 h5)
      rw [← hK] at cb G4 G5 G6 h3i h3
      generalize (num r).1 = n at cu hnl G4 G5 G6
      generalize rest r = l3 at cu hl3 G4 G5 G6
      obtain ⟨t, ht⟩ : ∃ t, rdBody K n l3 = t := ⟨_, rfl⟩
      rw [ht] at G4 G5 G6
      have hni : ¬ (65536 : Int) < (n : Int) := by omega
      have hni2 : (n : Int) ≤ 65536 := by omega
      clear he hr3
      rcases (by omega : K = 0 ∨ K = 1 ∨ K = 2 ∨ K = 3) with hx | hx | hx | hx
      all_goals
       rw [hx] at cb ht
       first
        | (have cr := fun wz (h1 : Ty.Tabs wz) (h2 : Ty.Cur w.heap.size wz l3 0) => Ig.reader0 w.heap.size n l3 wz h1 hG h2 hl3 hnl; rw [ht] at cr)
        | (have cr := fun wz (h1 : Ty.Tabs wz) (h2 : Ty.Cur w.heap.size wz l3 0) => Ig.reader1 w.heap.size n l3 wz h1 hG h2 hl3 hnl; rw [ht] at cr)
        | (have cr := fun wz (h1 : Ty.Tabs wz) (h2 : Ty.Cur w.heap.size wz l3 0) => Ig.reader2 w.heap.size n l3 wz h1 hG h2 hl3 hnl; rw [ht] at cr)
        | (have cr := fun wz (h1 : Ty.Tabs wz) (h2 : Ty.Cur w.heap.size wz l3 0) => Ig.reader3 w.heap.size n l3 wz h1 h2 hl3 hnl; rw [ht] at cr)
       have CR := Lib.hid cr
       clear hx h3 h3i hK ht cr
       go_enter Tryz.func192, Tryz.ntmps192
       go_wp2_with fail
       refine cf.mono ?_
       rintro e w1 ⟨rfl, hc1, hT1, hg1⟩
       have hs1 := hg1.size
       have cb1 := cb _ _ hc1
       have HB1 := Lib.hid (Ty.below_none hg1 (Nat.le_refl _))
       clear cf cb hc1 hg1
       go_wp2_with fail
       refine cb1.mono ?_
       rintro e w2 ⟨rfl, hc2, hg2⟩
       have hT2 := hT1.at_ hg2 hG
       have hb2 := HB1.out.trans (Ty.below_at (B := w.heap.size) hg2 hs1 (Nat.le_refl _))
       have HC2 := Lib.hid hc2
       clear cb1 hc2 hg2 hT1
       go_wp2_with fail
       refine (Ig.coders_c _).mono ?_
       rintro e w3 ⟨rfl, hw3⟩
       have hb23 : Below w2.heap.size w2 w3 := by rw [hw3]; exact (Below.refl _ _).alloc (Nat.le_refl _) _
       clear hw3
       have hlt2 := HC2.out.lt
       have hb3 := hb2.trans (hb23.mono hb2.size)
       have hT3 := hT2.below hb23 (by omega)
       have hc3 := HC2.out.below hb23 hlt2
       have cu3 := cu _ _ hT3 hc3
       have HB3 := Lib.hid hb3
       have hs3 := hb3.size
       clear hb23 hb2 hb3 hT2 hc3 cu
       go_wp2_with fail
       refine cu3.mono ?_
       rintro e w4 ⟨rfl, hc4, hg4⟩
       have HC4 := Lib.hid hc4
       have hT4 := hT3.at_ hg4 hG
       have HB4 := Lib.hid (HB3.out.trans (Ty.below_at (B := w.heap.size) hg4 hs3 (Nat.le_refl _)))
       clear cu3 hc4 hg4 hT3
       go_wp2_with fail
       refine (Ty.err_c _ _ 0 _ HC4.out).mono ?_
       rintro e w5 ⟨rfl, rfl⟩
       go_wp2_with fail
       refine (Ig.coders_c _).mono ?_
       rintro e w6 ⟨rfl, hw6⟩
       have hb56 : Below w5.heap.size w5 w6 := by rw [hw6]; exact (Below.refl _ _).alloc (Nat.le_refl _) _
       have hcc : ∀ i v, (Ig.csA)[i]? = some v → w6.cell? ⟨w5.heap.size, i, none⟩ = some v := fun i v h => by rw [hw6]; exact Ig.cs_cell w5 i v h
       have hcd := Ig.cs_at hcc
       have hlt5 := HC4.out.lt
       have HC6 := Lib.hid (HC4.out.below hb56 hlt5)
       have hT6 := hT4.below hb56 (by omega)
       have HB6 := Lib.hid (HB4.out.trans (hb56.mono HB4.out.size))
       have hs6 := HB6.out.size
       clear hw6 hcc hb56 HC4 HB4 hT4
       go_wp2_with fail
       refine (CR.out w6 hT6 HC6.out).mono ?_
       rintro e w7 ⟨v7, rfl, hO7, hc7, hg7⟩
       have HO7 := Lib.hid hO7
       have HC7 := Lib.hid hc7
       have HB7 := Lib.hid (HB6.out.trans (Ty.below_at (B := w.heap.size) hg7 hs6 (Nat.le_refl _)))
       clear hcd hT6 HC6 hO7 hc7 hg7
       obtain ⟨a7, c7, rfl⟩ := Ig.own_len HO7.out
       have HA7 := Lib.hid (Ig.Own.at HO7.out)
       obtain ⟨C, L, l4⟩ := t
       simp only at HO7 HC7 HA7 G4 G5 G6 ⊢
       by_cases hC : C = 0
       ·subst hC
        have hc7 := HC7.out rfl
        have HA8 := HA7
        simp only [if_true] at HA8
        have hil : (if (0 : Nat) = 0 then L else []).length = L.length := by rw [if_pos rfl]
        rw [hil]
        simp only [Int.natCast_zero]
        have HD := Lib.hid (Ty.done_c w.heap.size l4 0 w7 hc7)
        clear hil hc7
        by_cases hl4 : l4 = []
        ·have HR := Lib.hid (G6.out rfl hl4)
         have HF : Hid (Ty.fin l4 0 = 0) := Lib.hid (by rw [hl4]; rfl)
         have hd := HD.out
         rw [HF.out] at hd
         simp only [Int.natCast_zero] at hd
         clear hl4
         go_wp2_with fail
         refine hd.mono ?_
         rintro e w8 ⟨rfl, rfl⟩
         go_wp2
         go_ret2
         exact Ig.Got.good HR.out HA8.out HB7.out
        ·have HR := Lib.hid (G5.out rfl hl4)
         have HF : Hid (Ty.fin l4 0 = 5) := Lib.hid (by unfold Ty.fin; rw [if_pos ⟨rfl, hl4⟩])
         have hd := HD.out
         rw [HF.out] at hd
         simp only [Int.cast_ofNat_Int] at hd
         clear hl4
         go_wp2_with fail
         refine hd.mono ?_
         rintro e w8 ⟨rfl, rfl⟩
         go_wp2_with fail
         refine hd.mono ?_
         rintro e w8 ⟨rfl, rfl⟩
         go_wp2
         go_ret2
         exact Ig.Got.bad HR.out rfl HB7.out
       ·have HR := Lib.hid (G4.out hC)
        have hne : ((C : Int) != 0) = true := by rw [bne_iff_ne]; omega
        simp only [if_neg hC, List.length_nil]
        clear hC
        go_wp2
        go_ret2
        exact Ig.Got.bad HR.out rfl HB7.out
    ·have HR := Lib.hid (Ig.rd2 (r := r) h3 he)
     generalize (num r).2.2 = q at cu he HR
     have hne : ((q : Int) != 0) = true := by rw [bne_iff_ne]; omega
     clear he h3
     go_enter Tryz.func192, Tryz.ntmps192
     go_wp2_with fail
     refine cf.mono ?_
     rintro e w1 ⟨rfl, hc1, hT1, hg1⟩
     have hs1 := hg1.size
     have cb1 := cb _ _ hc1
     have HB1 := Lib.hid (Ty.below_none hg1 (Nat.le_refl _))
     clear cf cb hc1 hg1
     go_wp2_with fail
     refine cb1.mono ?_
     rintro e w2 ⟨rfl, hc2, hg2⟩
     have hT2 := hT1.at_ hg2 hG
     have hb2 := HB1.out.trans (Ty.below_at (B := w.heap.size) hg2 hs1 (Nat.le_refl _))
     have HC2 := Lib.hid hc2
     clear cb1 hc2 hg2 hT1
     go_wp2_with fail
     refine (Ig.coders_c _).mono ?_
     rintro e w3 ⟨rfl, hw3⟩
     have hb23 : Below w2.heap.size w2 w3 := by rw [hw3]; exact (Below.refl _ _).alloc (Nat.le_refl _) _
     clear hw3
     have hlt2 := HC2.out.lt
     have hb3 := hb2.trans (hb23.mono hb2.size)
     have hT3 := hT2.below hb23 (by omega)
     have hc3 := HC2.out.below hb23 hlt2
     have cu3 := cu _ _ hT3 hc3
     have HB3 := Lib.hid hb3
     have hs3 := hb3.size
     clear hb23 hb2 hb3 hT2 hT3 hc3 cu
     go_wp2_with fail
     refine cu3.mono ?_
     rintro e w4 ⟨rfl, hc4, hg4⟩
     have HC4 := Lib.hid hc4
     have HB4 := Lib.hid (HB3.out.trans (Ty.below_at (B := w.heap.size) hg4 hs3 (Nat.le_refl _)))
     clear cu3 hc4 hg4
     go_wp2_with fail
     refine (Ty.err_c _ _ q _ HC4.out).mono ?_
     rintro e w5 ⟨rfl, rfl⟩
     go_wp2_with fail
     refine (Ty.err_c _ _ q _ HC4.out).mono ?_
     rintro e w5 ⟨rfl, rfl⟩
     go_wp2
     go_ret2
     exact Ig.Got.bad HR.out rfl HB4.out
end
section
open Go.RowKit
open Ig (nth encI encR grp)
open Ty (encU num)
theorem Ig.S_add (a b : List UInt8) : Ty.S a ++ Ty.S b = Ty.S (a ++ b) := ByteArray.mk_append_mk a b
end
section
open Go.RowKit
open Ig (nth encI encR grp low off)
open Ty (encU num)
end
section
open Go.RowKit
open Ig (nth encI encR grp low off)
open Ty (encU num)
theorem Ig.one_str (q : Nat) (hq : q < 256) (wz : World) : (convert 118 9 (.slice (some ⟨wz.heap.size, 0, none⟩) 1 1)).run Tryz.prog (wz.alloc (.cells #[.int .u8 (q : Int)] 5)) = .ok (.string (Ty.S [UInt8.ofNat q])) (wz.alloc (.cells #[.int .u8 (q : Int)] 5)) :=
 (Ig.buf_one (base := wz.heap.size) q hq (Nat.le_refl _)).str
end
end Go.Proofs.YtbelkhkllneifaaGreatDoor
