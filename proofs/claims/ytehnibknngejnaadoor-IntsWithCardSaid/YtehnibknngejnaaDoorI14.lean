/-
  Contracts of package ints: the packed reader.
-/
import Derived.Test.YtehnibknngejnaaDoorI13
namespace Go.Proofs.YtehnibknngejnaaDoor
open Go.RowKit
open Ig (nth encI encR grp diffs prv low off sg rest rdInts acc rdRuns spread outs good un rdPacked)
open Ty (encU num)
section
variable {n : Nat} {l r : List UInt8} {x : UInt8}
theorem Ig.rdP1 (h : (num l).2.2 ≠ 0) : (rdPacked n l).1 = (num l).2.2 := by unfold rdPacked; rw [if_pos h]
theorem Ig.rdP2 (h : (num l).2.2 = 0) (hr : rest l = []) : (rdPacked n l).1 = 2 := by unfold rdPacked; rw [if_neg (by rw [h]; simp), hr]
theorem Ig.rdP3 (h : (num l).2.2 = 0) (hr : rest l = x :: r) (h64 : 64 < x.toNat) : (rdPacked n l).1 = 4 := by
  unfold rdPacked; rw [if_neg (by rw [h]; simp), hr]; simp only; rw [if_pos h64]
theorem Ig.rdP4 (h : (num l).2.2 = 0) (hr : rest l = x :: r) (h64 : ¬ 64 < x.toNat) (hs : r.length < Bt.need (n * x.toNat)) : (rdPacked n l).1 = 2 := by
  unfold rdPacked; rw [if_neg (by rw [h]; simp), hr]; simp only; rw [if_neg h64, if_pos hs]
theorem Ig.rdP5 (h : (num l).2.2 = 0) (hr : rest l = x :: r) (h64 : ¬ 64 < x.toNat) (hs : ¬ r.length < Bt.need (n * x.toNat)) (hc : Bt.chk (Ty.S (r.take (Bt.need (n * x.toNat)))) (n * x.toNat) ≠ 0) : (rdPacked n l).1 = Bt.chk (Ty.S (r.take (Bt.need (n * x.toNat)))) (n * x.toNat) := by
  unfold rdPacked; rw [if_neg (by rw [h]; simp), hr]; simp only; rw [if_neg h64, if_neg hs]
  unfold Ty.S at hc ⊢
  rw [if_pos hc]
theorem Ig.rdP6 (h : (num l).2.2 = 0) (hr : rest l = x :: r) (h64 : ¬ 64 < x.toNat) (hs : ¬ r.length < Bt.need (n * x.toNat)) (hc : Bt.chk (Ty.S (r.take (Bt.need (n * x.toNat)))) (n * x.toNat) = 0)
    (hg : ¬ good n x.toNat (sg l) (un (Ty.S (r.take (Bt.need (n * x.toNat)))) x.toNat) = true) : (rdPacked n l).1 = 4 := by
  unfold rdPacked; rw [if_neg (by rw [h]; simp), hr]; simp only; rw [if_neg h64, if_neg hs]
  unfold Ty.S at hc hg
  rw [if_neg (by rw [hc]; simp), if_neg hg]
theorem Ig.rdP7 (h : (num l).2.2 = 0) (hr : rest l = x :: r) (h64 : ¬ 64 < x.toNat) (hs : ¬ r.length < Bt.need (n * x.toNat)) (hc : Bt.chk (Ty.S (r.take (Bt.need (n * x.toNat)))) (n * x.toNat) = 0)
    (hg : good n x.toNat (sg l) (un (Ty.S (r.take (Bt.need (n * x.toNat)))) x.toNat) = true) : rdPacked n l = (0, outs n (sg l) (un (Ty.S (r.take (Bt.need (n * x.toNat)))) x.toNat), r.drop (Bt.need (n * x.toNat))) := by
  unfold rdPacked; rw [if_neg (by rw [h]; simp), hr]; simp only; rw [if_neg h64, if_neg hs]
  unfold Ty.S at hc hg ⊢
  rw [if_neg (by rw [hc]; simp), if_pos hg]
end
/-- What the packed reader leaves. -/
def Ig.rdP (n : Nat) (l : List UInt8) : Nat × List Int × List UInt8 := if n = 0 then (0, [], l) else rdPacked n l
theorem Ig.outs_nth (n : Nat) (x : Int) (X : Nat → Nat) {i : Nat} (h : i < n) : nth (outs n x X) i = wrap64 (x + (X i : Int)) := by
  unfold nth outs
  rw [List.getD, List.getElem?_map, List.getElem?_range h]
  rfl
theorem Ig.outs_len (n : Nat) (x : Int) (X : Nat → Nat) : (outs n x X).length = n := by simp [outs]
theorem Ig.need_is {n q m : Nat} (h : n * q = m) : ((m : Int) + 7) / 8 = ((Bt.need (n * q) : Nat) : Int) := by unfold Bt.need; rw [h]; omega
set_option maxHeartbeats 4000000 in
set_option maxRecDepth 100000 in
theorem Ig.readPacked_c (b n : Nat) (l : List UInt8) (w : World) (hw : Ty.Tabs w) (h : Ty.Cur b w l 0) (hl : l.length ≤ 140737488355328) (hn : n ≤ 65536) :
    Calls Tryd.prog 41 #[.pointer (some ⟨b, 0, none⟩), .int .i64 n] w (Ig.Rd b w (Ig.rdP n l)) := by
  have hbw := h.lt
  by_cases hn0 : n = 0
  · subst hn0
    have e : Ig.rdP 0 l = (0, [], l) := by unfold Ig.rdP; rw [if_pos rfl]
    rw [e]
    go_enter Tryd.func41, Tryd.ntmps41
    go_wp2
    go_ret2
    exact Ig.Rd.good rfl (Ig.Own.nil _ _) h (Ty.by_refl _ _)
  · have e0 : Ig.rdP n l = rdPacked n l := by unfold Ig.rdP; rw [if_neg hn0]
    rw [e0]
    have hni : ((n : Int) == 0) = false := by rw [beq_eq_false_iff_ne]; omega
    have ci := Ig.cint_m b l w hw h (by omega)
    have hr0 := Ig.rest_le l
    have HN0 : Hid (0 < n) := Lib.hid (by omega)
    clear e0 hn0
    by_cases he : (num l).2.2 = 0
    · rw [he] at ci
      cases hr : rest l with
      | nil =>
        have HB := Lib.hid (Ig.rdP2 (n := n) he hr)
        rw [hr] at ci
        have cb := fun wz (hc : Ty.Cur b wz [] 0) => Ty.cbyte_c b [] 0 wz hc (by simp)
        have e1 : Ty.rdB [] 0 = (0, [], 2) := rfl
        rw [e1] at cb
        clear e1 he hr hr0 h
        go_enter Tryd.func41, Tryd.ntmps41
        go_wp2_with fail
        refine ci.mono ?_
        rintro e w3 ⟨rfl, hc3, hg3⟩
        have cb3 := cb _ hc3
        have HG3 := Lib.hid hg3
        clear ci cb hg3 hc3
        go_wp2_with fail
        refine cb3.mono ?_
        rintro e w4 ⟨rfl, hc4, hg4⟩
        have HC4 := Lib.hid hc4
        have HG4 := Lib.hid (Ty.by_trans HG3.out hg4)
        clear cb3 hc4 hg4 HG3
        go_wp2_with fail
        refine (Ty.err_c b _ 2 _ HC4.out).mono ?_
        rintro e w5 ⟨rfl, rfl⟩
        go_wp2_with fail
        refine (Ty.err_c b _ 2 _ HC4.out).mono ?_
        rintro e w5 ⟨rfl, rfl⟩
        go_wp2
        go_ret2
        exact Ig.Rd.bad (by rw [HB.out]; rfl) (by rw [HB.out]; omega) HG4.out
      | cons x r =>
        rw [hr] at ci hr0
        have hrl : r.length ≤ 140737488355328 := by rw [List.length_cons] at hr0; omega
        have cb := fun wz (hc : Ty.Cur b wz (x :: r) 0) => Ig.cbyte_m b x r wz hc (by omega)
        by_cases h64 : 64 < x.toNat
        · have HB := Lib.hid (Ig.rdP3 (n := n) he hr h64)
          have h64i : (64 : Int) < (x.toNat : Int) := by omega
          clear he hr hr0 h h64
          go_enter Tryd.func41, Tryd.ntmps41
          go_wp2_with fail
          refine ci.mono ?_
          rintro e w3 ⟨rfl, hc3, hg3⟩
          have cb3 := cb _ hc3
          have HG3 := Lib.hid hg3
          clear ci cb hg3 hc3
          go_wp2_with fail
          refine cb3.mono ?_
          rintro e w4 ⟨rfl, hc4, hg4⟩
          have HC4 := Lib.hid hc4
          have HG4 := Lib.hid (Ty.by_trans HG3.out hg4)
          clear cb3 hc4 hg4 HG3
          go_wp2_with fail
          refine (Ty.err_c b _ 0 _ HC4.out).mono ?_
          rintro e w5 ⟨rfl, rfl⟩
          go_wp2
          go_ret2
          exact Ig.Rd.bad (by rw [HB.out]; rfl) (by rw [HB.out]; omega) HG4.out
        · obtain ⟨q, hq⟩ : ∃ q, q = x.toNat := ⟨_, rfl⟩
          have hq64 : q ≤ 64 := by omega
          have hmul := Bt.mul_le n q hq64
          obtain ⟨m, hm⟩ : ∃ m, n * q = m := ⟨_, rfl⟩
          have hmi : (n : Int) * (q : Int) = (m : Int) := by rw [← hm]; simp
          have hmm : m ≤ 4194304 := by omega
          have hd := Ig.need_is hm
          obtain ⟨sz, hsz⟩ : ∃ sz, sz = Bt.need (n * q) := ⟨_, rfl⟩
          rw [← hsz] at hd
          have hsz2 : sz ≤ 524289 := by rw [hsz, hm]; unfold Bt.need; omega
          have hq64i : ¬ (64 : Int) < (q : Int) := by omega
          by_cases hs : r.length < sz
          · have HB := Lib.hid (Ig.rdP4 (n := n) he hr h64 (by rw [← hq, ← hsz]; exact hs))
            have hsi : (r.length : Int) < (sz : Int) := by omega
            rw [← hq] at cb
            clear he hr hr0 h h64 hq hs hsz hm hmul
            go_enter Tryd.func41, Tryd.ntmps41
            go_wp2_with fail
            refine ci.mono ?_
            rintro e w3 ⟨rfl, hc3, hg3⟩
            have cb3 := cb _ hc3
            have HG3 := Lib.hid hg3
            clear ci cb hg3 hc3
            go_wp2_with fail
            refine cb3.mono ?_
            rintro e w4 ⟨rfl, hc4, hg4⟩
            have HC4 := Lib.hid hc4
            have HG4 := Lib.hid (Ty.by_trans HG3.out hg4)
            clear cb3 hc4 hg4 HG3
            go_wp2_with fail
            refine (Ty.err_c b _ 0 _ HC4.out).mono ?_
            rintro e w5 ⟨rfl, rfl⟩
            go_wp2_with fail
            refine (Ty.left_c b _ 0 _ HC4.out).mono ?_
            rintro e w6 ⟨rfl, rfl⟩
            go_wp2
            go_ret2
            exact Ig.Rd.bad (by rw [HB.out]; rfl) (by rw [HB.out]; omega) HG4.out
          · have hsi : ¬ (r.length : Int) < (sz : Int) := by omega
            have ct := fun wz (hc : Ty.Cur b wz r 0) => Ig.take_c b sz r wz hc hrl (by omega)
            have hts : (Ty.S (r.take sz)).size ≤ 140737488355328 := by rw [Ty.size_S, List.length_take]; omega
            have cun := fun wz => Bt.unpack_c (Ty.S (r.take sz)) (n : Int) (q : Int) wz hts
            have e3 : Bt.upE (Ty.S (r.take sz)) (n : Int) (q : Int) = Bt.chk (Ty.S (r.take sz)) (n * q) := by unfold Bt.upE; rw [if_pos ⟨by omega, by omega⟩]; rfl
            have e4 : Bt.upN (Ty.S (r.take sz)) (n : Int) (q : Int) = if Bt.chk (Ty.S (r.take sz)) (n * q) = 0 then n else 0 := by unfold Bt.upN; rw [e3]; rfl
            rw [e3, e4, Int.toNat_natCast] at cun
            rw [← hq] at cb
            have F5 := Lib.hid (fun h5 => Ig.rdP5 (n := n) (x := x) he hr h64 (by rw [← hq, ← hsz]; exact hs) h5)
            have F6 := Lib.hid (fun h5 => Ig.rdP6 (n := n) (x := x) he hr h64 (by rw [← hq, ← hsz]; exact hs) h5)
            have F7 := Lib.hid (fun h5 => Ig.rdP7 (n := n) (x := x) he hr h64 (by rw [← hq, ← hsz]; exact hs) h5)
            rw [← hq, ← hsz] at F5 F6 F7
            clear e3 e4 he hr hr0 h h64 hq hts
            generalize Ty.S (r.take sz) = s at ct cun F5 F6 F7
            generalize r.drop sz = l9 at ct F7
            by_cases hck : Bt.chk s (n * q) = 0
            · rw [if_pos hck, hck] at cun
              simp only [Int.natCast_zero] at cun
              have G6 := Lib.hid (F6.out hck)
              have G7 := Lib.hid (F7.out hck)
              have hX : ∀ i, Bt.nums s q i < 2 ^ 64 := fun i => Nat.lt_of_lt_of_le (Bt.num_lt q _) (Nat.pow_le_pow_right (by decide) hq64)
              have hwd : Bt.wid n (Bt.nums s q) ≤ q := (Bt.wid_le n _ q).2 fun i _ => Bt.num_lt q _
              rw [Ig.un_nums] at G6 G7
              generalize Bt.nums s q = X at cun G6 G7 hX hwd
              have HGD := Lib.hid (Ig.good_is (q := q) (x := sg l) HN0.out hX)
              have hxi := Ig.sg_i64 l
              generalize sg l = y at ci G6 G7 HGD hxi
              have hmk := run_make_row' (P := Tryd.prog) 22 2 (.int .i64 0) 8 Tryd.underlying22 Ig.infoI rfl .i64 .i64 n (by omega) (by omega)
              have HX := Lib.hid hX
              clear hck F5 F6 F7 hs hsz hm hmul hX
              go_enter Tryd.func41, Tryd.ntmps41
              go_wp2_with fail
              refine ci.mono ?_
              rintro e w3 ⟨rfl, hc3, hg3⟩
              have cb3 := cb _ hc3
              have HG3 := Lib.hid hg3
              clear ci cb hg3 hc3
              go_wp2_with fail
              refine cb3.mono ?_
              rintro e w4 ⟨rfl, hc4, hg4⟩
              have HC4 := Lib.hid hc4
              have HG4 := Lib.hid (Ty.by_trans HG3.out hg4)
              clear cb3 hc4 hg4 HG3
              go_wp2_with fail
              refine (Ty.err_c b _ 0 _ HC4.out).mono ?_
              rintro e w5 ⟨rfl, rfl⟩
              go_wp2_with fail
              refine (Ty.left_c b _ 0 _ HC4.out).mono ?_
              rintro e w6 ⟨rfl, rfl⟩
              have ct4 := ct _ HC4.out
              clear ct
              go_wp2_with fail
              refine ct4.mono ?_
              rintro e w7 ⟨rfl, hc7, hg7⟩
              have HC7 := Lib.hid hc7
              have HG7 := Lib.hid (Ty.by_trans HG4.out hg7)
              clear ct4 hc7 hg7 HC4 HG4
              go_wp2_with fail
              refine (cun _).mono ?_
              rintro e w8 ⟨vd, rfl, hS8, g8⟩
              have HG8 := Lib.hid (Ig.below_by g8 HG7.out)
              have hc8 : Ty.Cur b w8 l9 0 := HC7.out.below g8 (by have := HG7.out.size; omega)
              have HC8 := Lib.hid hc8
              clear cun g8 hc8 HC7 HG7
              have HS8 := Lib.hid hS8
              obtain ⟨a8, c8, rfl, h8⟩ := hS8
              go_wp2_with fail
              have hR : (w8.alloc (.cells (madeCells #[.int .i64 0] n) 2)).rowIs w8.heap.size 2 n (Bt.upTo 0 (Ig.iv (outs n y X)) (.int .i64 0)) := (World.rowIs_made w8 (.int .i64 0) n 2).congr fun i _ => by unfold Bt.upTo; rw [if_neg (by omega)]
              have hB : Below w8.heap.size w8 (w8.alloc (.cells (madeCells #[.int .i64 0] n) 2)) := (Below.refl _ _).alloc (Nat.le_refl _) _
              generalize w8.alloc (.cells (madeCells #[.int .i64 0] n) 2) = w9 at hR hB ⊢
              clear hmk hd hmi hmm hsz2 hsi
              generalize hg : w8.heap.size = g at hR hB
              have HGE := Lib.hid hg
              clear hg
              go_loopw [52] (fun i wr => ∃ k : Nat, k ≤ n ∧ i = .int .i64 k ∧ wr.rowIs g 2 n (Bt.upTo k (Ig.iv (outs n y X)) (.int .i64 0)) ∧ Below g w8 wr) (fun i _ => n - (intOf i).toNat)
              case atStart => exact ⟨0, by omega, rfl, hR, hB⟩
              case round =>
                obtain ⟨k, hk, rfl, hRk, hBk⟩ := hrel
                have HR := Lib.hid hRk
                have HBK := Lib.hid hBk
                clear hR hB hRk hBk
                by_cases hl2 : k < n
                · rcases h8 with h8 | ⟨b2, o2, rfl, hb2, h8⟩
                  · omega
                  · have hcell : wr.cell? ⟨b2, o2 + k, none⟩ = some (.int .u64 ((X k : Nat) : Int)) := (HBK.out.cell (p := ⟨b2, o2 + k, none⟩) (show b2 < g by have := HGE.out; omega)).trans (h8 k hl2)
                    have hkl : (k : Int) < (n : Int) := by omega
                    have hk0 : (0 : Int) ≤ (k : Int) := by omega
                    have hf := HR.out.frozen k
                    have hcl := HR.out.cell hl2
                    have HO := Lib.hid (Ig.outs_nth n y X hl2)
                    have HSW := Lib.hid (Ig.sum_wrap (x := y) (n := X k))
                    generalize X k = X0 at hcell HO HSW
                    clear h8
                    go_wp2
                    go_roundw
                    case rel => exact ⟨k + 1, by omega, by simp, Bt.upTo_next HR.out (by unfold Ig.iv; rw [HO.out, ← HSW.out]), HBK.out.trans (Bt.below_set (Nat.le_refl _) _)⟩
                    case measure => simp [intOf]; omega
                · obtain rfl : k = n := by omega
                  have hkl : ¬ (k : Int) < (k : Int) := by omega
                  have hrow : wr.rowIs g 2 k (Ig.iv (outs k y X)) := HR.out.congr fun i hi => by unfold Bt.upTo; rw [if_pos hi]
                  have hge := HGE.out
                  have hb8 : Below w8.heap.size w8 wr := by rw [hge]; exact HBK.out
                  have hown := Ig.own_row (base := w.heap.size) hrow (Ig.outs_len k y X) (by have := HG8.out.size; omega) (by unfold maxLen; omega)
                  have cwd := Bt.width_c _ k X wr (HS8.out.later hb8) HX.out (by omega)
                  have HOW := Lib.hid hown
                  have HGW := Lib.hid (Ig.below_by hb8 HG8.out)
                  have HCW := Lib.hid (HC8.out.below hb8 (by have := HG8.out.size; omega))
                  have hat := Ig.Own.at hown
                  clear hrow hown hb8 h8 hge
                  by_cases hlt : Bt.wid k X < q
                  · have hlti : ((Bt.wid k X : Nat) : Int) < (q : Int) := by omega
                    have HB := Lib.hid (G6.out (fun e => by have := (HGD.out.1 e).1; omega))
                    clear hat
                    go_wp2_with fail
                    refine cwd.mono ?_
                    rintro e w10 ⟨rfl, rfl⟩
                    go_wp2
                    go_ret2
                    exact Ig.Rd.bad (by rw [HB.out]; rfl) (by rw [HB.out]; omega) HGW.out
                  · have hlti : ¬ ((Bt.wid k X : Nat) : Int) < (q : Int) := by omega
                    have hwq : Bt.wid k X = q := by omega
                    have hlo := Ig.outs_len k y X
                    have cm := Ig.min_c _ (outs k y X) wr hat (by rw [hlo]; exact HN0.out) (by rw [hlo]; omega)
                    by_cases hly : low (outs k y X) = y
                    · have HE := Lib.hid (G7.out (HGD.out.2 ⟨hwq, hly⟩))
                      rw [hly] at cm
                      have hyy : (y != y) = false := by simp
                      clear hat hly hwq hlo
                      go_wp2_with fail
                      refine cwd.mono ?_
                      rintro e w10 ⟨rfl, rfl⟩
                      go_wp2_with fail
                      refine cm.mono ?_
                      rintro e w10 ⟨rfl, rfl⟩
                      go_wp2
                      go_ret2
                      exact Ig.Rd.good (by rw [HE.out]) (by rw [HE.out]; exact HOW.out) (by rw [HE.out]; exact HCW.out) HGW.out
                    · have HB := Lib.hid (G6.out (fun e => hly (HGD.out.1 e).2))
                      have hyy : (low (outs k y X) != y) = true := by rw [bne_iff_ne]; exact hly
                      generalize low (outs k y X) = z at cm hyy hly
                      clear hat hly hwq hlo
                      go_wp2_with fail
                      refine cwd.mono ?_
                      rintro e w10 ⟨rfl, rfl⟩
                      go_wp2_with fail
                      refine cm.mono ?_
                      rintro e w10 ⟨rfl, rfl⟩
                      go_wp2
                      go_ret2
                      exact Ig.Rd.bad (by rw [HB.out]; rfl) (by rw [HB.out]; omega) HGW.out
            · rw [if_neg hck] at cun
              have HB := Lib.hid (F5.out hck)
              generalize Bt.chk s (n * q) = C at cun hck HB
              have hCi : ((C : Int) != 0) = true := by rw [bne_iff_ne]; omega
              have HC := Lib.hid hck
              clear hck F5 F6 F7 hs hsz hm hmul
              go_enter Tryd.func41, Tryd.ntmps41
              go_wp2_with fail
              refine ci.mono ?_
              rintro e w3 ⟨rfl, hc3, hg3⟩
              have cb3 := cb _ hc3
              have HG3 := Lib.hid hg3
              clear ci cb hg3 hc3
              go_wp2_with fail
              refine cb3.mono ?_
              rintro e w4 ⟨rfl, hc4, hg4⟩
              have HC4 := Lib.hid hc4
              have HG4 := Lib.hid (Ty.by_trans HG3.out hg4)
              clear cb3 hc4 hg4 HG3
              go_wp2_with fail
              refine (Ty.err_c b _ 0 _ HC4.out).mono ?_
              rintro e w5 ⟨rfl, rfl⟩
              go_wp2_with fail
              refine (Ty.left_c b _ 0 _ HC4.out).mono ?_
              rintro e w6 ⟨rfl, rfl⟩
              have ct4 := ct _ HC4.out
              clear ct
              go_wp2_with fail
              refine ct4.mono ?_
              rintro e w7 ⟨rfl, hc7, hg7⟩
              have HC7 := Lib.hid hc7
              have HG7 := Lib.hid (Ty.by_trans HG4.out hg7)
              clear ct4 hc7 hg7 HC4 HG4
              go_wp2_with fail
              refine (cun _).mono ?_
              rintro e w8 ⟨vd, rfl, hS8, g8⟩
              have HG8 := Lib.hid (Ig.below_by g8 HG7.out)
              have hc8 : Ty.Cur b w8 l9 0 := HC7.out.below g8 (by have := HG7.out.size; omega)
              have HC8 := Lib.hid hc8
              clear cun g8 hc8 HC7 HG7
              go_wp2
              go_ret2
              exact Ig.Rd.bad (by rw [HB.out]) (by rw [HB.out]; exact HC.out) HG8.out
    · have HB := Lib.hid (Ig.rdP1 (n := n) he)
      have cb := fun l2 wz (hc : Ty.Cur b wz l2 (num l).2.2) hl2 => Ty.cbyte_c b l2 (num l).2.2 wz hc hl2
      have e1 : ∀ l2, Ty.rdB l2 (num l).2.2 = (0, l2, (num l).2.2) := fun l2 => by unfold Ty.rdB; rw [if_pos he]
      have cb2 := cb (rest l)
      rw [e1] at cb2
      clear cb e1
      generalize (num l).2.2 = q at ci he HB cb2
      have hne : ((q : Int) != 0) = true := by rw [bne_iff_ne]; omega
      have HQ := Lib.hid he
      generalize rest l = l3 at ci cb2 hr0
      clear he h
      go_enter Tryd.func41, Tryd.ntmps41
      go_wp2_with fail
      refine ci.mono ?_
      rintro e w3 ⟨rfl, hc3, hg3⟩
      have cb3 := cb2 _ hc3 (by omega)
      have HG3 := Lib.hid hg3
      clear ci cb2 hg3 hc3 hr0
      go_wp2_with fail
      refine cb3.mono ?_
      rintro e w4 ⟨rfl, hc4, hg4⟩
      have HC4 := Lib.hid hc4
      have HG4 := Lib.hid (Ty.by_trans HG3.out hg4)
      clear cb3 hc4 hg4 HG3
      go_wp2_with fail
      refine (Ty.err_c b _ q _ HC4.out).mono ?_
      rintro e w5 ⟨rfl, rfl⟩
      go_wp2_with fail
      refine (Ty.err_c b _ q _ HC4.out).mono ?_
      rintro e w5 ⟨rfl, rfl⟩
      go_wp2
      go_ret2
      exact Ig.Rd.bad (by rw [HB.out]) (by rw [HB.out]; exact HQ.out) HG4.out
end Go.Proofs.YtehnibknngejnaaDoor
