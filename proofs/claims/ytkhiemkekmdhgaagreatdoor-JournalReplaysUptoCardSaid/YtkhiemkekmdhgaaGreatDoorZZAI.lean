import Derived.Test.YtkhiemkekmdhgaaGreatDoorZZAH
import Derived.Test.YtkhiemkekmdhgaaGreatDoorZZAE
import Derived.Test.YtkhiemkekmdhgaaGreatDoorZZAF
import Derived.Test.YtkhiemkekmdhgaaGreatDoorZZAD
import Derived.Test.YtkhiemkekmdhgaaGreatDoorZZAA
import Derived.BigQuiet
import Derived.Laws.ResultCell
import Derived.Deep.RegionWith
namespace Go.Proofs.YtkhiemkekmdhgaaGreatDoor
section
open Go.RowKit
set_option maxHeartbeats 4000000 in
set_option maxRecDepth 100000 in
theorem Fr.rscan_c (s : ByteArray) (hs : s.size ≤ 70368744177664) (w : World) :
 Calls Tryz.prog 23 #[.string s] w (Fr.Got w (Fr.scan s.data.toList)) := by
 obtain ⟨l, hl⟩ : ∃ l, l = s.data.toList := ⟨_, rfl⟩
 have hll : l.length = s.size := by rw [hl, Ty.length_data]
 rw [← hl]
 have HL := Lib.hid hl
 have HLL := Lib.hid hll
 have HM0 := Lib.hid (Fr.Mid.start l)
 obtain ⟨R, hR⟩ : ∃ R, R = Fr.scan l := ⟨_, rfl⟩
 rw [← hR]
 have HRR := Lib.hid hR
 clear hR hl hll
 go_enter Tryz.func23, Tryz.ntmps23
 go_wp2
 go_loopw [5, 6] (fun ov av wr => ∃ (a : Nat) (L : List Fr.Str), av = .int .i64 a ∧ Fr.Mid l a L ∧ Tx.Own w.heap.size wr ov L ∧ Below w.heap.size w wr) (fun _ av _ => s.size - (intOf av).toNat)
 case atStart => exact ⟨0, [], rfl, HM0.out, Tx.Own.nil _ _, Below.refl _ _⟩
 case round =>
  obtain ⟨a, L, rfl, hM, hO, hb⟩ := hrel
  have has : a ≤ s.size := by have := hM.1; rw [HLL.out] at this; exact this
  have hL8 : 8 * L.length ≤ a := hM.2.1
  have hdl : (l.drop a).length = s.size - a := by rw [List.length_drop, HLL.out]
  have HM := Lib.hid hM
  have HO := Lib.hid hO
  have HB := Lib.hid hb
  have hws := hb.size
  have ha0 : (0 : Int) ≤ (a : Int) := by omega
  clear hM hO hb HM0
  by_cases h4 : s.size - a < 4
  ·have hti : ¬ (4 : Int) ≤ (s.size : Int) - (a : Int) := by omega
   have HE := Lib.hid (HRR.out.trans (HM.out.short (by omega)))
   have HAT := Lib.hid (Tx.Own.at HO.out)
   clear h4 hdl
   go_wp2
   go_ret3
   exact Fr.Got.good HE.out HAT.out HB.out
  ·have hti : (4 : Int) ≤ (s.size : Int) - (a : Int) := by omega
   have h4' : ¬ (l.drop a).length < 4 := by omega
   have hx : s.extract a (a + 4) = Ty.S ((l.drop a).take 4) := by rw [Fr.ext_at, HL.out, Nat.add_sub_cancel_left]
   have hxs : (Ty.S ((l.drop a).take 4)).size = 4 := by rw [Ty.size_S, List.length_take]; omega
   have cn := fun wz => Fr.rnumber_c (Ty.S ((l.drop a).take 4)) (by omega) wz
   rw [Ty.data_S, List.take_take, Nat.min_self] at cn
   have hN32 : Fr.val ((l.drop a).take 4) < 4294967296 := by
    have := Fr.val_lt ((l.drop a).take 4)
    rw [List.length_take, Nat.min_eq_left (by omega)] at this
    exact this
   have FB := Lib.hid fun h => HRR.out.trans (HM.out.big h4' h)
   have FT := Lib.hid fun h h2 => HRR.out.trans (HM.out.torn h4' h h2)
   have FW := Lib.hid fun h h2 h3 => HRR.out.trans (HM.out.wrong h4' h h2 h3)
   have FN := Lib.hid fun h h2 h3 => HM.out.next h4' h h2 h3
   generalize Fr.val ((l.drop a).take 4) = N at cn hN32 FB FT FW FN
   generalize hX4 : Ty.S ((l.drop a).take 4) = X4 at hx hxs cn
   have t1 : ((a : Int) + 4).toNat = a + 4 := by omega
   clear hX4 h4 h4'
   go_wp2_with fail
   with_reducible refine (cn _).mono ?_
   rintro e w1 ⟨rfl, n1, hw1⟩
   have HB1 : Hid (Below w.heap.size w w1) := Lib.hid (by rw [hw1]; exact HB.out.trans ((Bt.drewN_below _ _).mono hws))
   have HO1 : Hid (Tx.Own w.heap.size w1 u5 L) := Lib.hid (by rw [hw1]; exact Bt.Buf.kept HO.out (Bt.drewN_below _ _))
   clear hw1 cn HO HB
   by_cases hb : 1048576 < N
   ·have hbi : (1048576 : Int) < (N : Int) := by omega
    have HE := Lib.hid (FB.out hb)
    clear hb FT FW FN
    go_wp2
    go_ret3
    exact Fr.Got.bad HE.out HB1.out
   ·have hbi : ¬ (1048576 : Int) < (N : Int) := by omega
    clear FB
    by_cases ht : s.size - a < N + 8
    ·have hti2 : (s.size : Int) - (a : Int) < (N : Int) + 8 := by omega
     have HE := Lib.hid (FT.out hb (by omega))
     have HAT := Lib.hid (Tx.Own.at HO1.out)
     clear hb ht FW FN FT hdl
     go_wp2
     go_ret3
     exact Fr.Got.good HE.out HAT.out HB1.out
    ·have hti2 : ¬ (s.size : Int) - (a : Int) < (N : Int) + 8 := by omega
     have ht' : ¬ (l.drop a).length < N + 8 := by omega
     have hT : s.extract (a + 4) (a + 4 + N) = Ty.S (((l.drop a).drop 4).take N) := by rw [Fr.ext_at, HL.out, List.drop_drop, Nat.add_sub_cancel_left]
     have hY : s.extract (a + 4 + N) (a + 8 + N) = Ty.S (((l.drop a).drop (4 + N)).take 4) := by rw [Fr.ext_at, HL.out, List.drop_drop, show a + 8 + N - (a + 4 + N) = 4 by omega, Nat.add_assoc]
     have hTs : (Ty.S (((l.drop a).drop 4).take N)).size ≤ 1048576 := by rw [Ty.size_S, List.length_take]; omega
     have hYs : (Ty.S (((l.drop a).drop (4 + N)).take 4)).size = 4 := by rw [Ty.size_S, List.length_take, List.length_drop]; omega
     have cs := fun wz => Fr.rsum_c (Ty.S (((l.drop a).drop 4).take N)) (by omega) wz
     have cn := fun wz => Fr.rnumber_c (Ty.S (((l.drop a).drop (4 + N)).take 4)) (by omega) wz
     rw [Ty.data_S, List.take_take, Nat.min_self] at cn
     rw [Ty.data_S] at cs
     have FW := Lib.hid (FW.out hb ht')
     have FN := Lib.hid (FN.out hb ht')
     have HTS : Hid (Ty.S (((l.drop a).drop 4).take N) = Ty.S (((l.drop a).drop 4).take N)) := Lib.hid rfl
     generalize Fr.val (((l.drop a).drop (4 + N)).take 4) = V at cn FW FN
     generalize Fr.sum (((l.drop a).drop 4).take N) = M at cs FW FN
     generalize ((l.drop a).drop 4).take N = K at hT hTs cs FN HTS
     generalize hX5 : Ty.S (((l.drop a).drop (4 + N)).take 4) = Y at hY hYs cn
     obtain ⟨T, hTT⟩ : ∃ T, T = Ty.S K := ⟨_, rfl⟩
     rw [← hTT] at hT hTs cs
     have HTT := Lib.hid hTT
     have t2 : ((a : Int) + 4 + (N : Int)).toNat = a + 4 + N := by omega
     have t3 : ((a : Int) + 8 + (N : Int)).toNat = a + 8 + N := by omega
     have hN2 : a + N + 8 ≤ s.size := by omega
     clear hX5 hTT HTS hb ht ht' hdl
     go_wp2_with fail
     with_reducible refine (cn _).mono ?_
     rintro e w2 ⟨rfl, n2, hw2⟩
     have HB2 : Hid (Below w.heap.size w w2) := Lib.hid (by rw [hw2]; exact HB1.out.trans ((Bt.drewN_below _ _).mono HB1.out.size))
     have HO2 : Hid (Tx.Own w.heap.size w2 u5 L) := Lib.hid (by rw [hw2]; exact Bt.Buf.kept HO1.out (Bt.drewN_below _ _))
     clear hw2 cn HO1 HB1
     go_wp2_with fail
     with_reducible refine (cs _).mono ?_
     rintro e w3 ⟨rfl, hw3⟩
     subst w3
     clear cs
     by_cases hv : V = M
     ·have hvi : ((V : Nat) : Int) = ((M : Nat) : Int) := by rw [hv]
      have HNX := Lib.hid (FN.out hv)
      clear FW FN hv
      have hws2 := HB2.out.size
      have hLL : (L.length + 1) * 16 ≤ 140737488355328 := by omega
      have hO2 := HO2.out
      go_wp2_with (at_builtin; refine Bt.wpList_append_one 9 36 (.string ⟨#[]⟩) 16 Tryz.underlying36 Tx.infoS rfl (hO2.pre K) hws2 hLL (by omega) (.tmp 55) (.tmp 57) _ rfl rfl rfl rfl rfl ?_; intro v3 w3 h3 g3)
      have HO3 := Lib.hid (Tx.Own.post (h3 (by rw [← Tx.sv_snoc, ← HTT.out])))
      have HB3 := Lib.hid (Tx.grew_below HB2.out hO2 g3)
      clear h3 g3 hO2 hLL
      go_wp2
      go_roundw
      case rel => exact ⟨a + (N + 8), L ++ [K], by congr 1, HNX.out, HO3.out, HB3.out⟩
      case measure => simp [intOf]; omega
     ·have hvi : ¬ ((V : Nat) : Int) = ((M : Nat) : Int) := by omega
      have HE := Lib.hid (HRR.out.trans (HRR.out.symm.trans (FW.out hv)))
      clear FW FN hv
      go_wp2
      go_ret3
      exact Fr.Got.bad HE.out HB2.out
end
section
open Go.RowKit
theorem Kn.right_all {s : List Kn.C} (h : Kn.right s = true) : s.all Kn.C.good = true := by
 unfold Kn.right at h
 simp only [Bool.and_eq_true] at h
 exact h.2
theorem Kn.test_ways (c : Kn.C) (v : Kn.V) (h : c.good = true) : (Kn.isK c.k v = false ∧ Kn.fits c v = false) ∨ (Kn.isK c.k v = true ∧ v.null = false ∧ Kn.fits c v = true) ∨ (Kn.isK c.k v = true ∧ v.null = true ∧ c.null = true ∧ Kn.fits c v = true) ∨ (Kn.isK c.k v = true ∧ v.null = true ∧ c.null = false ∧ Kn.fits c v = false) := by
 have := Kn.isK_fits c v h
 rw [this]
 cases Kn.isK c.k v <;> cases v.null <;> cases c.null <;> simp
set_option maxHeartbeats 1000000 in
set_option maxRecDepth 100000 in
theorem Kn.rfits_c (v u : Value) (s : List Kn.C) (r : List Kn.V) (w : World) (hs : Kn.Cols w v s) (hr : Kn.Vals w u r) :
 Calls Tryz.prog 86 #[v, u] w fun e w' => e = .returned (.int .i64 (Kn.fitsE s r)) ∧ Below w.heap.size w w' := by
 have cR := Kn.rRight_c v s
 cases hR : Kn.right s
 ·rw [Kn.fitsE_bad hR]
  rw [hR] at cR
  go_enter Tryz.func86, Tryz.ntmps86
  go_wp2_with fail
  refine (cR _ hs).mono ?_
  rintro e w1 ⟨rfl, rfl⟩
  go_wp2
  go_ret
  exact ⟨rfl, Below.refl _ _⟩
 ·rw [hR] at cR
  have hl := Kn.right_len hR
  have hall := Kn.right_all hR
  by_cases hn : r.length = s.length
  ·have k0 := fun hf => Kn.fitsE_ok (s := s) (r := r) hR hn hf
   have k6 := fun hf => Kn.fitsE_kind (s := s) (r := r) hR hn hf
   generalize hE : Kn.fitsE s r = E at *
   clear hE
   have hs0 := hs
   obtain ⟨a, c, rfl, h⟩ := hs
   obtain ⟨a2, c2, rfl, h2⟩ := hr
   rcases h with rfl | ⟨b, o, rfl, hlt, hm, hc⟩
   ·simp at hl
   ·rcases h2 with rfl | ⟨b2, o2, rfl, hlt2, hm2, hc2⟩
    ·simp at hn; omega
    ·rw [hn]
     have HA := Lib.hid hall
     clear hall
     go_enter Tryz.func86, Tryz.ntmps86
     go_wp2_with fail
     refine (cR _ hs0).mono ?_
     rintro e w1 ⟨rfl, rfl⟩
     have hz : ((s.length : Int) != (s.length : Int)) = false := by simp
     go_wp2_with fail
     go_loopw [5] (fun i wr => ∃ k : Nat, k ≤ s.length ∧ i = .int .i64 k ∧ Kn.fitsAll s r = Kn.fitsAll (s.drop k) (r.drop k) ∧ Below w1.heap.size w1 wr) (fun i _ => s.length - (intOf i).toNat)
     case atStart => exact ⟨0, by omega, rfl, rfl, Below.refl _ _⟩
     case round =>
      obtain ⟨k, hk, rfl, hg, hb⟩ := hrel
      have HG := Lib.hid hg
      clear hg
      by_cases hkl : k < s.length
      ·have hx := List.getElem?_eq_getElem hkl
       have hy := List.getElem?_eq_getElem (show k < r.length by omega)
       generalize s[k] = x at hx
       generalize r[k] = y at hy
       have HS := Lib.hid (Kn.fitsAll_step s r k x y hx hy)
       have hgood := List.all_eq_true.1 HA.out x (List.mem_of_getElem? hx)
       have e0 := (hb.cell (p := ⟨b, o + k * 2, none⟩) hlt).trans (hc k x hx).1
       have e1 := (hb.cell (p := ⟨b, o + k * 2 + 1, none⟩) hlt).trans (hc k x hx).2
       have hy2 := hc2 k y hy
       have f0 := (hb.cell (p := ⟨b2, o2 + k * 3, none⟩) hlt2).trans hy2.c0
       have f1 := (hb.cell (p := ⟨b2, o2 + k * 3 + 1, none⟩) hlt2).trans hy2.c1
       have f2 := (hb.cell (p := ⟨b2, o2 + k * 3 + 2, none⟩) hlt2).trans hy2.c2
       have dk : (k : Int) < (s.length : Int) := by omega
       have dk0 : (0 : Int) ≤ (k : Int) := by omega
       have hW := Kn.test_ways x y hgood
       have cI : ∀ p : Regrown, Calls Tryz.prog 115 #[.int .i64 x.k, .agg #[.bool y.null, .int .i64 y.n, .string y.s]] (Sort.grow (redrawn wr p.d) p.os) fun e w'' => e = .returned (.bool (Kn.isK x.k y)) ∧ ∃ p : Regrown, w'' = Sort.grow (redrawn wr p.d) p.os := fun p => Calls.regrown_of (Kn.rIs_c x.k y _)
       clear hgood hx hy hy2
       have HK6 := Lib.hid k6
       have HK0 := Lib.hid k0
       have HC := Lib.hid hc
       have HC2 := Lib.hid hc2
       clear k6 k0 hc hc2
       rcases hW with ⟨w1', w2'⟩ | ⟨w1', w2', w3'⟩ | ⟨w1', w2', w3', w4'⟩ | ⟨w1', w2', w3', w4'⟩
       ·rw [w1'] at cI
        have HF := Lib.hid w2'
        clear w1' w2'
        have E0 := fun d os => cell_regrown e0 d os
        have E1 := fun d os => cell_regrown e1 d os
        have F0 := fun d os => cell_regrown f0 d os
        have F1 := fun d os => cell_regrown f1 d os
        have F2 := fun d os => cell_regrown f2 d os
        have CI := Lib.hid cI
        clear cI
        go_wp2_with fail
        refine wp_region_quiet_below (by kernel_rfl) (by kernel_rfl) ?_
        repeat (go_big_quiet_step (exact CI.out _))
        refine wpQuiet_nil ?_
        intro _ hw'
        obtain ⟨⟨dq, osq⟩, hw''⟩ := hw'
        subst hw''
        go_wp2
        go_ret
        have he := HK6.out (by rw [HG.out, HS.out, HF.out]; rfl)
        subst he
        exact ⟨rfl, hb.trans ((below_regrown wr dq osq).mono hb.size)⟩
       ·rw [w1', w2'] at cI
        rw [w2'] at f0
        have HF := Lib.hid w3'
        clear w1' w2' w3'
        have E0 := fun d os => cell_regrown e0 d os
        have E1 := fun d os => cell_regrown e1 d os
        have F0 := fun d os => cell_regrown f0 d os
        have F1 := fun d os => cell_regrown f1 d os
        have F2 := fun d os => cell_regrown f2 d os
        have CI := Lib.hid cI
        clear cI
        go_wp2_with fail
        refine wp_region_quiet_below (by kernel_rfl) (by kernel_rfl) ?_
        repeat (go_big_quiet_step (exact CI.out _))
        refine wpQuiet_nil ?_
        intro _ hw'
        obtain ⟨⟨dq, osq⟩, hw''⟩ := hw'
        subst hw''
        go_wp2
        go_roundw
        case rel => exact ⟨k + 1, by omega, by simp, by rw [HG.out, HS.out, HF.out]; rfl, hb.trans ((below_regrown wr dq osq).mono hb.size)⟩
        case measure => simp [intOf]; omega
       ·rw [w1', w2'] at cI
        rw [w2'] at f0
        rw [w3'] at e1
        have HF := Lib.hid w4'
        clear w1' w2' w3' w4'
        have E0 := fun d os => cell_regrown e0 d os
        have E1 := fun d os => cell_regrown e1 d os
        have F0 := fun d os => cell_regrown f0 d os
        have F1 := fun d os => cell_regrown f1 d os
        have F2 := fun d os => cell_regrown f2 d os
        have CI := Lib.hid cI
        clear cI
        go_wp2_with fail
        refine wp_region_quiet_below (by kernel_rfl) (by kernel_rfl) ?_
        repeat (go_big_quiet_step (exact CI.out _))
        refine wpQuiet_nil ?_
        intro _ hw'
        obtain ⟨⟨dq, osq⟩, hw''⟩ := hw'
        subst hw''
        go_wp2
        go_roundw
        case rel => exact ⟨k + 1, by omega, by simp, by rw [HG.out, HS.out, HF.out]; rfl, hb.trans ((below_regrown wr dq osq).mono hb.size)⟩
        case measure => simp [intOf]; omega
       ·rw [w1', w2'] at cI
        rw [w2'] at f0
        rw [w3'] at e1
        have HF := Lib.hid w4'
        clear w1' w2' w3' w4'
        have E0 := fun d os => cell_regrown e0 d os
        have E1 := fun d os => cell_regrown e1 d os
        have F0 := fun d os => cell_regrown f0 d os
        have F1 := fun d os => cell_regrown f1 d os
        have F2 := fun d os => cell_regrown f2 d os
        have CI := Lib.hid cI
        clear cI
        go_wp2_with fail
        refine wp_region_quiet_below (by kernel_rfl) (by kernel_rfl) ?_
        repeat (go_big_quiet_step (exact CI.out _))
        refine wpQuiet_nil ?_
        intro _ hw'
        obtain ⟨⟨dq, osq⟩, hw''⟩ := hw'
        subst hw''
        go_wp2
        go_ret
        have he := HK6.out (by rw [HG.out, HS.out, HF.out]; rfl)
        subst he
        exact ⟨rfl, hb.trans ((below_regrown wr dq osq).mono hb.size)⟩
      ·obtain rfl : k = s.length := by omega
       have dk : ¬ (s.length : Int) < (s.length : Int) := by omega
       have he := k0 (HG.out.trans (Kn.fitsAll_end s r _ (by omega)))
       clear k6 k0
       subst he
       go_wp2
       go_ret
       exact ⟨rfl, hb⟩
  ·rw [Kn.fitsE_len hR hn]
   obtain ⟨a2, c2, rfl, h2⟩ := hr
   have hs0 := hs
   obtain ⟨a, c, rfl, h⟩ := hs
   have hz : ((r.length : Int) != (s.length : Int)) = true := by rw [bne_iff_ne]; omega
   go_enter Tryz.func86, Tryz.ntmps86
   go_wp2_with fail
   refine (cR _ hs0).mono ?_
   rintro e w1 ⟨rfl, rfl⟩
   go_wp2
   go_ret
   exact ⟨rfl, Below.refl _ _⟩
set_option maxHeartbeats 1000000 in
set_option maxRecDepth 100000 in
theorem Kn.rkey_c (v : Value) (s : List Kn.C) (y : Kn.V) (w : World) (hs : Kn.Cols w v s) :
 Calls Tryz.prog 87 #[v, y.val] w fun e w' => e = .returned (.int .i64 (Kn.keyE s y)) ∧ Below w.heap.size w w' := by
 have cR := Kn.rRight_c v s
 cases hR : Kn.right s
 ·have hE : Kn.keyE s y = 4 := by unfold Kn.keyE; rw [hR]; rfl
  rw [hE]
  rw [hR] at cR
  clear hE
  go_enter Tryz.func87, Tryz.ntmps87
  go_wp2_with fail
  refine (cR _ (hs.later ((Below.refl _ _).alloc (Nat.le_refl _) _))).mono ?_
  rintro e w1 ⟨rfl, rfl⟩
  go_wp2
  go_ret
  exact ⟨rfl, (Below.refl _ w).alloc (Nat.le_refl _) _⟩
 ·rw [hR] at cR
  obtain ⟨x, t, rfl, hxn, hxg⟩ := Kn.right_head hR
  have hE : Kn.keyE (x :: t) y = if Kn.fits x y = true then 0 else 6 := by unfold Kn.keyE; rw [hR]; rfl
  rw [hE]
  clear hE
  have hW : (y.null = true ∧ (if Kn.fits x y = true then (0 : Int) else 6) = 6) ∨ (y.null = false ∧ Kn.isK x.k y = false ∧ (if Kn.fits x y = true then (0 : Int) else 6) = 6) ∨ (y.null = false ∧ Kn.isK x.k y = true ∧ (if Kn.fits x y = true then (0 : Int) else 6) = 0) := by
   have := Kn.isK_fits x y hxg
   rw [this, hxn]
   cases Kn.isK x.k y <;> cases y.null <;> simp
  have hs0 := hs
  obtain ⟨a, c, rfl, h⟩ := hs
  rcases h with h | ⟨b, o, rfl, hlt, hm, hc⟩
  ·cases h
  ·obtain ⟨c0, c1⟩ := hc 0 x rfl
   rw [Nat.zero_mul, Nat.add_zero] at c0 c1
   have d0 : (0 : Int) < ((x :: t).length : Int) := by rw [List.length_cons]; omega
   have d00 : 0 < (x :: t).length := by rw [List.length_cons]; omega
   have gN : Below w.heap.size w (w.alloc (.cells #[.bool y.null, .int .i64 y.n, .string y.s] 43)) := (Below.refl _ _).alloc (Nat.le_refl _) _
   have hy := Kn.At.new w y 43
   have hs1 := hs0.later gN
   clear hxn hxg hc hs0
   generalize (x :: t).length = m at *
   have e0 := (gN.cell (p := ⟨b, o, none⟩) hlt).trans c0
   have cI := Kn.rIs_c x.k y
   unfold Kn.V.val at cI ⊢
   rcases hW with ⟨hn, hE⟩ | ⟨hn, hi, hE⟩ | ⟨hn, hi, hE⟩
   ·obtain ⟨f0, f1, f2⟩ := hy
    rw [hE]
    rw [hn] at f0 gN hs1 e0 f1 f2 ⊢
    clear hE c0 c1 cI hn
    go_enter Tryz.func87, Tryz.ntmps87
    go_wp2_with fail
    refine (cR _ hs1).mono ?_
    rintro e w1 ⟨rfl, rfl⟩
    go_wp2_with fail
    go_quiet (fail)
    go_wp2
    go_ret
    exact ⟨rfl, Kn.below_drewN gN _⟩
   all_goals
    obtain ⟨f0, f1, f2⟩ := hy
    rw [hE]
    rw [hi] at cI
    rw [hn] at f0 gN hs1 e0 f1 f2 cI ⊢
    clear hE c0 c1 hn hi
    go_enter Tryz.func87, Tryz.ntmps87
    go_wp2_with fail
    refine (cR _ hs1).mono ?_
    rintro e w1 ⟨rfl, rfl⟩
    go_wp2_with fail
    generalize w.alloc (.cells #[.bool false, .int .i64 y.n, .string y.s] 43) = wn at f0 f1 f2 e0 gN ⊢
    have E0 := fun d os => cell_regrown e0 d os
    have F0 := fun d os => cell_regrown f0 d os
    have F1 := fun d os => cell_regrown f1 d os
    have F2 := fun d os => cell_regrown f2 d os
    have CI : Hid (∀ p : Regrown, _) := Lib.hid fun p : Regrown => Calls.regrown_of (d := p.d) (os := p.os) (w := wn) (cI _)
    clear cI
    refine wp_region_quiet_below (by kernel_rfl) (by kernel_rfl) ?_
    repeat (go_big_quiet_step (exact CI.out _))
    refine wpQuiet_nil ?_
    intro _ hw'
    obtain ⟨⟨dq, osq⟩, hw''⟩ := hw'
    subst hw''
    go_wp2
    go_ret
    exact ⟨rfl, gN.trans ((below_regrown wn dq osq).mono gN.size)⟩
end
section
open Go.RowKit
def Kn.sameV (a b : Kn.V) : Bool := (a.null == b.null) && ((a.n == b.n) && (a.s.toList == b.s.toList))
def Kn.sameR : List Kn.V → List Kn.V → Bool
 | a :: l, b :: m => Kn.sameV a b && Kn.sameR l m
 | [], [] => true
 | _, _ => false
theorem Kn.sameR_self : ∀ l : List Kn.V, Kn.sameR l l = true
 | [] => rfl
 | a :: l => by simp [Kn.sameR, Kn.sameV, Kn.sameR_self l]
theorem Kn.sameR_len : ∀ a b : List Kn.V, a.length ≠ b.length → Kn.sameR a b = false
 | [], [], h => absurd rfl h
 | [], _ :: _, _ => rfl
 | _ :: _, [], _ => rfl
 | a :: l, b :: m, h => by
   simp only [Kn.sameR]
   rw [Kn.sameR_len l m (by simpa using h)]
   simp
theorem Kn.sameR_step (s r : List Kn.V) (k : Nat) (c v : Kn.V) (hc : s[k]? = some c) (hv : r[k]? = some v) : Kn.sameR (s.drop k) (r.drop k) = (Kn.sameV c v && Kn.sameR (s.drop (k + 1)) (r.drop (k + 1))) := by
 obtain ⟨h1, rfl⟩ := List.getElem?_eq_some_iff.1 hc
 obtain ⟨h2, rfl⟩ := List.getElem?_eq_some_iff.1 hv
 rw [List.drop_eq_getElem_cons h1, List.drop_eq_getElem_cons h2]
 rfl
theorem Kn.sameR_end (s r : List Kn.V) (k : Nat) (h : ¬ k < s.length) (h2 : r.length = s.length) : Kn.sameR (s.drop k) (r.drop k) = true := by
 rw [List.drop_eq_nil_of_le (by omega), List.drop_eq_nil_of_le (by omega)]
 rfl
theorem Kn.sameV_ways (a b : Kn.V) : (Kn.sameV a b = false ∧ (a.null == b.null) = false) ∨ (Kn.sameV a b = false ∧ (a.null == b.null) = true ∧ (a.n == b.n) = false) ∨ (Kn.sameV a b = false ∧ (a.null == b.null) = true ∧ (a.n == b.n) = true ∧ (a.s.toList == b.s.toList) = false) ∨ (Kn.sameV a b = true ∧ (a.null == b.null) = true ∧ (a.n == b.n) = true ∧ (a.s.toList == b.s.toList) = true) := by
 unfold Kn.sameV
 cases (a.null == b.null) <;> cases (a.n == b.n) <;> cases (a.s.toList == b.s.toList) <;> simp
set_option maxHeartbeats 1000000 in
set_option maxRecDepth 100000 in
theorem Kn.rsame_c (v u : Value) (s r : List Kn.V) (w : World) (hs : Kn.Vals w v s) (hr : Kn.Vals w u r) :
 Calls Tryz.prog 34 #[v, u] w fun e w' => e = .returned (.bool (Kn.sameR s r)) ∧ ∃ n, w' = w.drewN n := by
 obtain ⟨a, c, rfl, h⟩ := hs
 obtain ⟨a2, c2, rfl, h2⟩ := hr
 by_cases hn : r.length = s.length
 ·rw [hn]
  have hz : ((s.length : Int) != (s.length : Int)) = false := by simp
  generalize hB : Kn.sameR s r = B
  have HB := Lib.hid hB
  clear hB
  go_enter Tryz.func34, Tryz.ntmps34
  go_wp2
  go_loopw [5] (fun i wr => ∃ k : Nat, k ≤ s.length ∧ i = .int .i64 k ∧ Kn.sameR s r = Kn.sameR (s.drop k) (r.drop k) ∧ ∃ n, wr = w.drewN n) (fun i _ => s.length - (intOf i).toNat)
  case atStart => exact ⟨0, by omega, rfl, rfl, 0, rfl⟩
  case round =>
   obtain ⟨k, hk, rfl, hg, n, rfl⟩ := hrel
   have HG := Lib.hid hg
   clear hg
   by_cases hkl : k < s.length
   ·rcases h with rfl | ⟨b, o, rfl, hlt, hm, hc⟩
    ·simp at hkl
    ·rcases h2 with rfl | ⟨b2, o2, rfl, hlt2, hm2, hc2⟩
     ·simp at hn; omega
     ·have hx := List.getElem?_eq_getElem hkl
      have hy := List.getElem?_eq_getElem (show k < r.length by omega)
      generalize s[k] = x at hx
      generalize r[k] = y at hy
      have HS := Lib.hid (Kn.sameR_step s r k x y hx hy)
      obtain ⟨e0, e1, e2⟩ := hc k x hx
      obtain ⟨f0, f1, f2⟩ := hc2 k y hy
      have dk : (k : Int) < (s.length : Int) := by omega
      have dk0 : (0 : Int) ≤ (k : Int) := by omega
      have HC := Lib.hid hc
      have HC2 := Lib.hid hc2
      clear hc hc2 hx hy
      rcases Kn.sameV_ways x y with ⟨h0, h1⟩ | ⟨h0, h1, h2⟩ | ⟨h0, h1, h2, h3⟩ | ⟨h0, h1, h2, h3⟩
      all_goals
       have HF := Lib.hid h0
       clear h0
       go_wp2_with fail
       go_quiet (fail)
       go_wp2
      all_goals first
       | (go_ret
          exact ⟨Kn.retb (by rw [← HB.out, HG.out, HS.out, HF.out]; rfl), by first | exact ⟨_, rfl⟩ | exact ⟨_, World.drewN_drewN _ _ _⟩⟩)
       | (go_roundw
          case rel => exact ⟨k + 1, by omega, by simp, by rw [HG.out, HS.out, HF.out]; rfl, by first | exact ⟨_, rfl⟩ | exact ⟨_, World.drewN_drewN _ _ _⟩⟩
          case measure => simp [intOf]; omega)
   ·obtain rfl : k = s.length := by omega
    have dk : ¬ (s.length : Int) < (s.length : Int) := by omega
    have he : B = true := HB.out.symm.trans (HG.out.trans (Kn.sameR_end s r _ (by omega) hn))
    subst he
    go_wp2
    go_ret
    exact ⟨rfl, _, rfl⟩
 ·rw [Kn.sameR_len s r (fun e => hn e.symm)]
  have hz : ((s.length : Int) != (r.length : Int)) = true := by rw [bne_iff_ne]; omega
  go_enter Tryz.func34, Tryz.ntmps34
  go_wp2
  go_ret
  exact ⟨rfl, 0, rfl⟩
end
section
open Go.RowKit
set_option maxHeartbeats 1000000 in
theorem Ty.rtext_m (r : Nat) (s : ByteArray) (hs : s.size ≤ 140737488351232) (l : List UInt8) (er : Nat) (most : Int) (hm : -9223372036854775808 ≤ most ∧ most ≤ 9223372036854775807) (w : World) (h : Ty.RS r s w l er) :
 Calls Tryz.prog 81 #[.pointer (some ⟨r, 0, none⟩), .int .i64 most] w (Ty.RLeft r s w (.string (Ty.S (Ty.rdT most l er).1)) (Ty.rdT most l er).2.1 (Ty.rdT most l er).2.2) := by
 obtain ⟨a, ha, hl, hR⟩ := h
 obtain ⟨c0, c1, c2, _, _⟩ := hR.cells
 have HL := Lib.hid hl
 by_cases he : er = 0
 ·subst he
  obtain ⟨n, sz, e1, hn⟩ : ∃ n sz e1, Ty.num l = (n, sz, e1) := ⟨_, _, _, rfl⟩
  have hll : l.length = s.size - a := by rw [← hl, Ty.len_drop]
  have hz : a + sz ≤ s.size := by have := Ty.num_size l; rw [hn] at this; simp only at this; omega
  have hz9 : sz ≤ 9 := by have := Ty.num_size9 l; rw [hn] at this; exact this
  have E1 : (Ty.num l).1 = n := by rw [hn]
  have E2 : (Ty.num l).2.1 = sz := by rw [hn]
  have E3 : (Ty.num l).2.2 = e1 := by rw [hn]
  have HN := Lib.hid hn
  obtain ⟨hm1, hm2⟩ := hm
  clear hn hl
  by_cases h1 : e1 = 0
  ·subst h1
   by_cases h2 : most < 0 ∨ (¬ most < 0 ∧ most < (n : Int))
   ·have HT := Lib.hid (Ty.rdT_of (Ty.txt_long (most := most) E3 (by rw [E1]; omega)))
    rw [HT.out]
    clear E1 E2 E3 hll
    rcases h2 with h2 | ⟨h2, h3⟩
    all_goals
     go_enter Tryz.func81, Tryz.ntmps81
     go_wp2_with fail
     refine (Ty.peek_c r s a 0 ha hs _ hR).mono ?_
     rintro e w1 ⟨rfl, hR1, g1⟩
     rw [HL.out]
     unfold Ty.numV
     rw [HN.out]
     go_wp2_with fail
     refine (Ty.fail_c r s a 3 _ hR1).mono ?_
     rintro e w2 ⟨rfl, hR2, g2⟩
     go_wp2
     go_ret
     exact ⟨rfl, ⟨a, ha, HL.out, hR2⟩, Ty.by_trans (Ty.by_some g1 r) g2⟩
   ·have h2a : ¬ most < 0 := by omega
    have h2b : ¬ most < (n : Int) := by omega
    by_cases h3 : ((s.size - a : Nat) : Int) - (sz : Int) < (n : Int)
    ·have HT := Lib.hid (Ty.rdT_of (Ty.txt_short (most := most) E3 (by rw [E1]; omega) (by rw [E1, E2, hll]; omega)))
     rw [HT.out]
     have hle : (sz : Int) ≤ ((s.size - a : Nat) : Int) := by omega
     clear E1 E2 E3 hll h2
     go_enter Tryz.func81, Tryz.ntmps81
     go_wp2_with fail
     refine (Ty.peek_c r s a 0 ha hs _ hR).mono ?_
     rintro e w1 ⟨rfl, hR1, g1⟩
     rw [HL.out]
     unfold Ty.numV
     rw [HN.out]
     go_wp2_with fail
     refine (Ty.rleft_o r s a 0 ha hs _ hR1).mono ?_
     rintro e w2 ⟨rfl, hR2, g2⟩
     go_wp2_with fail
     refine (Ty.fail_c r s a 2 _ hR2).mono ?_
     rintro e w3 ⟨rfl, hR3, g3⟩
     go_wp2
     go_ret
     exact ⟨rfl, ⟨a, ha, HL.out, hR3⟩, Ty.by_trans (Ty.by_some g1 r) (Ty.by_trans (Ty.by_some g2 r) g3)⟩
    ·have HT := Lib.hid (Ty.rdT_of (Ty.txt_whole (most := most) E3 (by rw [E1]; omega) (by rw [E1, E2, hll]; omega)))
     have hle : (sz : Int) ≤ ((s.size - a : Nat) : Int) := by omega
     have hend : a + sz + n ≤ s.size := by omega
     have w1' : IntKind.i64.wrap ((a : Int) + (sz : Int)) = (a : Int) + (sz : Int) := IntWalk.i64_in _ (by omega)
     have w2' : IntKind.i64.wrap (n : Int) = (n : Int) := IntWalk.i64_in _ (by omega)
     have w3' : IntKind.i64.wrap ((a : Int) + (sz : Int) + (n : Int)) = (a : Int) + (sz : Int) + (n : Int) := IntWalk.i64_in _ (by omega)
     have z1 : 0 ≤ (a : Int) + (sz : Int) := by omega
     have z2 : (a : Int) + (sz : Int) ≤ (a : Int) + (sz : Int) + (n : Int) := by omega
     have z3 : (a : Int) + (sz : Int) + (n : Int) ≤ (s.size : Int) := by omega
     have t1 : ((a : Int) + (sz : Int)).toNat = a + sz := by omega
     have t2 : ((a : Int) + (sz : Int) + (n : Int)).toNat = a + sz + n := by omega
     have F1 := Lib.hid E1
     have F2 := Lib.hid E2
     clear E1 E2 E3 hll h2
     go_enter Tryz.func81, Tryz.ntmps81
     go_wp2_with fail
     refine (Ty.peek_c r s a 0 ha hs _ hR).mono ?_
     rintro e w1 ⟨rfl, hR1, g1⟩
     rw [HL.out]
     unfold Ty.numV
     rw [HN.out]
     go_wp2_with fail
     refine (Ty.rleft_o r s a 0 ha hs _ hR1).mono ?_
     rintro e w2 ⟨rfl, hR2, g2⟩
     clear c0 c1 c2
     obtain ⟨c0, c1, c2, f1, _⟩ := hR2.cells
     go_wp2_with fail
     go_quiet (fail)
     go_wp2
     go_ret
     have ex : s.extract (a + sz) (a + sz + n) = Ty.S ((l.drop sz).take n) := by rw [Ty.extract_S, Ty.drop_at, HL.out, Nat.add_sub_cancel_left]
     have ec : ((a : Int) + ((sz : Int) + (n : Int))) = ((a + (sz + n) : Nat) : Int) := by omega
     rw [HT.out, F1.out, F2.out, ec]
     exact ⟨congrArg (fun x => Ending.returned (.string x)) ex, ⟨a + (sz + n), by omega, by rw [Ty.drop_at, HL.out], Ty.rc_set1 (hR2.drewN nq)⟩, Ty.by_trans (Ty.by_some g1 r) (Ty.by_trans (Ty.by_some g2 r) (Ty.by_trans (Ty.by_drewN _ _ _) (Ty.by_set _ _ _ _)))⟩
  ·have hne : ((e1 : Int) != 0) = true := by rw [bne_iff_ne]; omega
   have HT := Lib.hid (Ty.rdT_of (Ty.txt_bad (most := most) (by rw [E3]; exact h1)))
   rw [HT.out]
   have F3 := Lib.hid E3
   clear h1 E1 E2 E3 hll
   go_enter Tryz.func81, Tryz.ntmps81
   go_wp2_with fail
   refine (Ty.peek_c r s a 0 ha hs _ hR).mono ?_
   rintro e w1 ⟨rfl, hR1, g1⟩
   rw [HL.out]
   unfold Ty.numV
   rw [HN.out]
   go_wp2_with fail
   refine (Ty.fail_c r s a e1 _ hR1).mono ?_
   rintro e w2 ⟨rfl, hR2, g2⟩
   go_wp2
   go_ret
   exact ⟨rfl, ⟨a, ha, HL.out, by rw [F3.out]; exact hR2⟩, Ty.by_trans (Ty.by_some g1 r) g2⟩
 ·have hne : ((er : Int) != 0) = true := by rw [bne_iff_ne]; omega
  have HR : Hid (Ty.rdT most l er = ([], l, er)) := Lib.hid (by simp [Ty.rdT, he])
  rw [HR.out]
  clear he hl
  go_enter Tryz.func81, Tryz.ntmps81
  go_wp2
  go_ret
  exact ⟨rfl, ⟨a, ha, HL.out, hR⟩, Ty.by_refl _ _⟩
end
section
open Go.RowKit
open Ty (encU num txt)
open Tx (restT)
open Ig (rest sg)
theorem Tx.RS_err {r : Nat} {s : ByteArray} {w : World} {l : List UInt8} {e : Nat} (h : Ty.RS r s w l e) : w.cell? ⟨r, 2, none⟩ = some (.int .i64 (e : Int)) := by
 obtain ⟨a, _, _, hR⟩ := h
 exact hR.cells.2.2.1
theorem Tx.RS_lt {r : Nat} {s : ByteArray} {w : World} {l : List UInt8} {e : Nat} (h : Ty.RS r s w l e) : r < w.heap.size := by
 obtain ⟨a, _, _, hR⟩ := h
 exact hR.lt
theorem Tx.RS_below {r : Nat} {s : ByteArray} {w w' : World} {l : List UInt8} {e B : Nat} (h : Ty.RS r s w l e) (hb : Below B w w') (hr : r < B) : Ty.RS r s w' l e := by
 obtain ⟨a, h1, h2, hR⟩ := h
 exact ⟨a, h1, h2, hR.below hb hr⟩
theorem Tx.rtext_r (r : Nat) (s : ByteArray) (hs : s.size ≤ 140737488351232) (l : List UInt8) (w : World) (h : Ty.RS r s w l 0) :
 Calls Tryz.prog 81 #[.pointer (some ⟨r, 0, none⟩), .int .i64 64] w (Ty.RLeft r s w (.string (Ty.S (txt l 64).1)) (restT l) (txt l 64).2.2) := by
 have e : Ty.rdT 64 l 0 = ((txt l 64).1, restT l, (txt l 64).2.2) := by unfold Ty.rdT; rw [if_neg (by omega)]; rfl
 have := Ty.rtext_m r s hs l 0 64 (by omega) w h
 rw [e] at this
 exact this
theorem Tx.RS_new (s : ByteArray) (w : World) : Ty.RS w.heap.size s (w.alloc (.cells #[.string s, .int .i64 0, .int .i64 0] 91)) s.data.toList 0 :=
 ⟨0, Nat.zero_le _, by simp, heap_alloc_new w _⟩
theorem Tx.rint_x (r : Nat) (s : ByteArray) (hs : s.size ≤ 140737488351232) (l : List UInt8) (w : World) (h : Ty.RS r s w l 0) :
 Calls Tryz.prog 80 #[.pointer (some ⟨r, 0, none⟩)] w (Ty.RLeft r s w (.int .i64 (sg l)) (rest l) (num l).2.2) := by
 have e : Ty.rdU l 0 = ((num l).1, rest l, (num l).2.2) := by unfold Ty.rdU; rw [if_neg (by omega)]; rfl
 have := Ty.rint_m r s hs l 0 w h
 rw [e] at this
 exact this
end
section
open Go.RowKit
theorem Dd.fitE_put {s : List Kn.C} {r : List Kn.V} : Dd.fitE s ⟨false, r⟩ = Kn.fitsE s r := rfl
theorem Dd.fitE_bad {s : List Kn.C} {r : List Kn.V} (h : Kn.right s = false) : Dd.fitE s ⟨true, r⟩ = 4 := by
 unfold Dd.fitE
 rw [if_pos rfl, if_neg (by rw [h]; decide)]
theorem Dd.fitE_len {s : List Kn.C} {r : List Kn.V} (h : Kn.right s = true) (hn : r.length ≠ 1) : Dd.fitE s ⟨true, r⟩ = 7 := by
 unfold Dd.fitE
 rw [if_pos rfl, if_pos h]
 match r, hn with
 | [], _ => rfl
 | [_], hn => exact absurd rfl hn
 | _ :: _ :: _, _ => rfl
theorem Dd.fitE_key {s : List Kn.C} {k : Kn.V} (h : Kn.right s = true) : Dd.fitE s ⟨true, [k]⟩ = Kn.keyE s k := by
 unfold Dd.fitE
 rw [if_pos rfl, if_pos h]
set_option maxHeartbeats 2000000 in
set_option maxRecDepth 100000 in
theorem Dd.rFits_c (v u : Value) (s : List Kn.C) (d : Dd.D) (w : World) (hs : Kn.Cols w v s) (hu : Kn.Vals w u d.row) :
 Calls Tryz.prog 55 #[v, .agg #[.bool d.gone, u]] w fun e w' => e = .returned (.int .i64 (Dd.fitE s d)) ∧ Below w.heap.size w w' := by
 obtain ⟨g, r⟩ := d
 simp only at hu ⊢
 have HS := Lib.hid hs
 have HU := Lib.hid hu
 have HB0 : Hid (Below w.heap.size w (w.alloc (.cells #[.bool g, u] 26))) := Lib.hid ((Below.refl _ _).alloc (Nat.le_refl _) _)
 have HX0 := Lib.hid (Kn.cell_new w #[.bool g, u] 26 0 _ rfl)
 have HX1 := Lib.hid (Kn.cell_new w #[.bool g, u] 26 1 _ rfl)
 simp only [List.getElem_toArray, List.getElem_cons_zero, List.getElem_cons_succ] at HX0 HX1
 have hsz : (w.alloc (.cells #[.bool g, u] 26)).heap.size = w.heap.size + 1 := World.size_alloc ..
 clear hs hu
 cases g
 ·rw [Dd.fitE_put]
  go_enter Tryz.func55, Tryz.ntmps55
  go_wp2_with fail
  generalize hwo : w.alloc _ = wo at hsz HX0 HX1 HB0 ⊢
  clear hwo
  have cf := Kn.rfits_c v u s r wo (HS.out.later HB0.out) (HU.out.later HB0.out)
  have x0 := HX0.out
  have x1 := HX1.out
  go_wp2_with fail
  with_reducible refine cf.mono ?_
  rintro e w1 ⟨rfl, g1⟩
  have HB1 := Lib.hid (HB0.out.trans (g1.mono HB0.out.size))
  clear cf g1
  go_wp2
  go_ret
  exact ⟨rfl, HB1.out⟩
 ·cases hR : Kn.right s
  ·rw [Dd.fitE_bad hR]
   have cR := fun wz h => Kn.rRight_c v s wz h
   rw [hR] at cR
   go_enter Tryz.func55, Tryz.ntmps55
   go_wp2_with fail
   generalize hwo : w.alloc _ = wo at hsz HX0 HX1 HB0 ⊢
   clear hwo
   have cr := cR wo (HS.out.later HB0.out)
   have x0 := HX0.out
   clear cR
   go_wp2_with fail
   with_reducible refine cr.mono ?_
   rintro e w1 ⟨rfl, h1⟩
   subst w1
   go_wp2
   go_ret
   exact ⟨rfl, HB0.out⟩
  ·have cR := fun wz h => Kn.rRight_c v s wz h
   rw [hR] at cR
   have HRT := Lib.hid hR
   clear hR
   by_cases hn : r.length = 1
   ·obtain ⟨k, rfl⟩ : ∃ k, r = [k] := by
     match r, hn with
     | [k], _ => exact ⟨k, rfl⟩
    rw [Dd.fitE_key HRT.out]
    obtain ⟨a, cp, rfl, h⟩ := HU.out.is
    have h' := h
    rcases h' with h' | ⟨b, o, rfl, hbl, hm, hk⟩
    ·cases h'
    ·have hA := hk 0 k rfl
     rw [Nat.zero_mul, Nat.add_zero] at hA
     have HA := Lib.hid hA
     clear h hk hA hn
     have ck := fun wz h => Kn.rkey_c v s k wz h
     go_enter Tryz.func55, Tryz.ntmps55
     go_wp2_with fail
     generalize hwo : w.alloc _ = wo at hsz HX0 HX1 HB0 ⊢
     clear hwo
     have cr := cR wo (HS.out.later HB0.out)
     have ck1 := ck wo (HS.out.later HB0.out)
     obtain ⟨k0, k1, k2⟩ := HA.out.later HB0.out
     have x0 := HX0.out
     have x1 := HX1.out
     clear cR ck
     simp only [List.length_cons, List.length_nil] at x1 ⊢
     go_wp2_with fail
     with_reducible refine cr.mono ?_
     rintro e w1 ⟨rfl, h1⟩
     subst w1
     go_wp2_with fail
     with_reducible refine ck1.mono ?_
     rintro e w2 ⟨rfl, g2⟩
     have HB2 := Lib.hid (HB0.out.trans (g2.mono HB0.out.size))
     clear ck1 g2
     go_wp2
     go_ret
     exact ⟨rfl, HB2.out⟩
   ·rw [Dd.fitE_len HRT.out hn]
    obtain ⟨a, cp, rfl, h⟩ := HU.out.is
    have hni : ((r.length : Int) != 1) = true := by rw [bne_iff_ne]; omega
    clear h hn
    go_enter Tryz.func55, Tryz.ntmps55
    go_wp2_with fail
    generalize hwo : w.alloc _ = wo at hsz HX0 HX1 HB0 ⊢
    clear hwo
    have cr := cR wo (HS.out.later HB0.out)
    have x0 := HX0.out
    have x1 := HX1.out
    clear cR
    go_wp2_with fail
    with_reducible refine cr.mono ?_
    rintro e w1 ⟨rfl, h1⟩
    subst w1
    go_wp2
    go_ret
    exact ⟨rfl, HB0.out⟩
set_option maxRecDepth 100000 in
set_option maxHeartbeats 1000000 in
theorem Dd.rflag_c (b : Bool) (w : World) : Calls Tryz.prog 56 #[.bool b] w fun e w' => e = .returned (.string (Ty.S [Dd.flag b])) ∧ w' = w := by
 cases b
 all_goals
  go_enter Tryz.func56, Tryz.ntmps56
  go_wp2
  go_ret
  exact ⟨rfl, rfl⟩
def Dd.same (a b : Dd.D) : Bool := (a.gone == b.gone) && Kn.sameR a.row b.row
set_option maxHeartbeats 2000000 in
set_option maxRecDepth 100000 in
theorem Dd.rsame_c (u v : Value) (a b : Dd.D) (w : World) (hu : Kn.Vals w u a.row) (hv : Kn.Vals w v b.row) :
 Calls Tryz.prog 16 #[.agg #[.bool a.gone, u], .agg #[.bool b.gone, v]] w fun e w' => e = .returned (.bool (Dd.same a b)) ∧ Below w.heap.size w w' := by
 obtain ⟨ga, ra⟩ := a
 obtain ⟨gb, rb⟩ := b
 simp only at hu hv ⊢
 unfold Dd.same
 simp only
 have hG0 : Below w.heap.size w ((w.alloc (.cells #[.bool ga, u] 26)).alloc (.cells #[.bool gb, v] 26)) := ((Below.refl _ w).alloc (Nat.le_refl _) _).alloc (by simp) _
 have hb := (Below.refl _ (w.alloc (.cells #[.bool ga, u] 26))).alloc (Nat.le_refl _) (.cells #[.bool gb, v] 26)
 have x0 := (hb.cell (p := ⟨w.heap.size, 0, none⟩) (by simp)).trans (Kn.cell_new w #[.bool ga, u] 26 0 _ rfl)
 have x1 := (hb.cell (p := ⟨w.heap.size, 1, none⟩) (by simp)).trans (Kn.cell_new w #[.bool ga, u] 26 1 _ rfl)
 have y0 := Kn.cell_new (w.alloc (.cells #[.bool ga, u] 26)) #[.bool gb, v] 26 0 _ rfl
 have y1 := Kn.cell_new (w.alloc (.cells #[.bool ga, u] 26)) #[.bool gb, v] 26 1 _ rfl
 rw [World.size_alloc] at y0 y1
 simp only [List.getElem_toArray, List.getElem_cons_zero, List.getElem_cons_succ] at x0 x1 y0 y1
 have cs := Kn.rsame_c u v ra rb _ (hu.later hG0) (hv.later hG0)
 have HX := Lib.hid (And.intro (And.intro x0 x1) (And.intro y0 y1))
 have HG0 := Lib.hid hG0
 generalize Kn.sameR ra rb = S at cs ⊢
 clear hG0 hb x0 x1 y0 y1 hu hv
 cases ga <;> cases gb
 all_goals
  go_enter Tryz.func16, Tryz.ntmps16
  go_wp2_with fail
 ·generalize World.alloc _ _ = wo at HX HG0 cs ⊢
  obtain ⟨⟨x0, x1⟩, y0, y1⟩ := HX.out
  go_wp2_with fail
  with_reducible refine cs.mono ?_
  rintro e w1 ⟨rfl, n, h1⟩
  subst w1
  go_wp2
  go_ret
  exact ⟨by simp, Kn.below_drewN HG0.out n⟩
 ·generalize World.alloc _ _ = wo at HX HG0 cs ⊢
  obtain ⟨⟨x0, x1⟩, y0, y1⟩ := HX.out
  go_wp2
  go_ret
  exact ⟨by simp, HG0.out⟩
 ·generalize World.alloc _ _ = wo at HX HG0 cs ⊢
  obtain ⟨⟨x0, x1⟩, y0, y1⟩ := HX.out
  go_wp2
  go_ret
  exact ⟨by simp, HG0.out⟩
 ·generalize World.alloc _ _ = wo at HX HG0 cs ⊢
  obtain ⟨⟨x0, x1⟩, y0, y1⟩ := HX.out
  go_wp2_with fail
  with_reducible refine cs.mono ?_
  rintro e w1 ⟨rfl, n, h1⟩
  subst w1
  go_wp2
  go_ret
  exact ⟨by simp, Kn.below_drewN HG0.out n⟩
end
section
open Go.RowKit
open Ty (num txt)
open Ig (rest sg)
open Tx (restT)
set_option maxHeartbeats 2000000 in
set_option maxRecDepth 100000 in
theorem Dd.rtruth_c (r : Nat) (s : ByteArray) (hs : s.size ≤ 140737488351232) (l : List UInt8) (w : World) (h : Ty.RS r s w l 0) :
 Calls Tryz.prog 46 #[.pointer (some ⟨r, 0, none⟩)] w fun e w' => e = .returned (.tuple #[.bool (Dd.rdF l).2.1, .int .i64 (((Dd.rdF l).1 : Nat) : Int)]) ∧ ((Dd.rdF l).1 = 0 → Ty.RS r s w' (Dd.rdF l).2.2 0) ∧ w.grownBy w' (some r) := by
 have cb := Ty.rbyte_m r s hs l 0 w h
 cases l with
 | nil =>
   have e1 : Ty.rdB [] 0 = (0, [], 2) := rfl
   rw [e1] at cb
   clear e1 h
   go_enter Tryz.func46, Tryz.ntmps46
   go_wp2_with fail
   with_reducible refine cb.mono ?_
   rintro e w1 ⟨rfl, hR1, g1⟩
   have he := Tx.RS_err hR1
   have HG1 := Lib.hid g1
   clear cb hR1 g1
   go_wp2_with fail
   go_quiet (fail)
   go_wp2
   go_ret2
   exact ⟨rfl, (fun e => by cases e), Ty.by_then HG1.out _⟩
 | cons x t =>
   have e1 : Ty.rdB (x :: t) 0 = (x.toNat, t, 0) := by unfold Ty.rdB; rw [if_neg (by omega)]
   rw [e1] at cb
   clear e1 h
   by_cases h1 : 1 < x.toNat
   ·have HR : Hid (Dd.rdF (x :: t) = (4, false, t)) := Lib.hid (by simp only [Dd.rdF]; rw [if_pos h1])
    have h1i : (1 : Int) < (x.toNat : Int) := by omega
    rw [HR.out]
    generalize x.toNat = X at cb h1i
    clear h1
    go_enter Tryz.func46, Tryz.ntmps46
    go_wp2_with fail
    with_reducible refine cb.mono ?_
    rintro e w1 ⟨rfl, hR1, g1⟩
    have he := Tx.RS_err hR1
    have HG1 := Lib.hid g1
    clear cb hR1 g1
    go_wp2
    go_ret2
    exact ⟨rfl, (fun e => by cases e), HG1.out⟩
   ·have HR : Hid (Dd.rdF (x :: t) = (0, x == 1, t)) := Lib.hid (by simp only [Dd.rdF]; rw [if_neg h1])
    have h1i : ¬ (1 : Int) < (x.toNat : Int) := by omega
    have hB : ((x.toNat : Int) == 1) = (x == 1) := by
     by_cases e : x = 1
     ·subst e; rfl
     ·have e0 : x = 0 := by
       apply UInt8.toNat_inj.1
       have : x.toNat ≠ 1 := fun h => e (UInt8.toNat_inj.1 h)
       show x.toNat = 0
       omega
      subst e0; rfl
    rw [HR.out]
    generalize (x == 1) = B at hB ⊢
    generalize x.toNat = X at cb h1i hB
    clear h1
    go_enter Tryz.func46, Tryz.ntmps46
    go_wp2_with fail
    with_reducible refine cb.mono ?_
    rintro e w1 ⟨rfl, hR1, g1⟩
    have he := Tx.RS_err hR1
    have HR1 := Lib.hid hR1
    have HG1 := Lib.hid g1
    clear cb hR1 g1
    go_wp2
    go_ret2
    exact ⟨rfl, fun _ => HR1.out, HG1.out⟩
theorem Dd.rdV_true {c : Kn.C} {l : List UInt8} (hc : c.null = true) (h : (Dd.rdF l).1 ≠ 0) : Dd.rdV c l = ((Dd.rdF l).1, Cl.ofN 0, (Dd.rdF l).2.2) := by unfold Dd.rdV; rw [if_pos hc, if_pos h]
theorem Dd.rdV_nul {c : Kn.C} {l : List UInt8} (hc : c.null = true) (h : (Dd.rdF l).1 = 0) (hb : (Dd.rdF l).2.1 = true) : Dd.rdV c l = (0, Cl.nul, (Dd.rdF l).2.2) := by unfold Dd.rdV; rw [if_pos hc, if_neg (by rw [h]; simp), if_pos hb]
theorem Dd.rdV_there {c : Kn.C} {l : List UInt8} (hc : c.null = true) (h : (Dd.rdF l).1 = 0) (hb : (Dd.rdF l).2.1 = false) : Dd.rdV c l = Dd.rdP c (Dd.rdF l).2.2 := by unfold Dd.rdV; rw [if_pos hc, if_neg (by rw [h]; simp), if_neg (by rw [hb]; decide)]
theorem Dd.rdV_plain {c : Kn.C} {l : List UInt8} (hc : c.null = false) : Dd.rdV c l = Dd.rdP c l := by unfold Dd.rdV; rw [if_neg (by rw [hc]; decide)]
theorem Dd.rdP_num {c : Kn.C} {l : List UInt8} (hk : c.k = 1) : Dd.rdP c l = ((num l).2.2, Cl.ofN (sg l), rest l) := by unfold Dd.rdP; rw [if_pos hk]
theorem Dd.rdP_str {c : Kn.C} {l : List UInt8} (hk : c.k ≠ 1) : Dd.rdP c l = ((txt l 64).2.2, Cl.ofS (txt l 64).1, restT l) := by unfold Dd.rdP; rw [if_neg hk]
def Dd.RdV (r : Nat) (s : ByteArray) (w : World) (t : Nat × Kn.V × List UInt8) (e : Ending) (w' : World) : Prop :=
 e = .returned (.tuple #[.agg #[.bool t.2.1.null, .int .i64 t.2.1.n, .string t.2.1.s], .int .i64 ((t.1 : Nat) : Int)]) ∧ (t.1 = 0 → Ty.RS r s w' t.2.2 0) ∧ w.grownBy w' (some r)
theorem Dd.three {w : World} {q : Nat} {x y z : Value} {t : TypeId} (h : w.heap[q]? = some (.cells #[x, y, z] t (0, 0))) : w.cell? ⟨q, 0, none⟩ = some x ∧ w.cell? ⟨q, 1, none⟩ = some y ∧ w.cell? ⟨q, 2, none⟩ = some z ∧ w.frozen? ⟨q, 0, none⟩ = false ∧ w.frozen? ⟨q, 1, none⟩ = false ∧ w.frozen? ⟨q, 2, none⟩ = false := by
 refine ⟨?_, ?_, ?_, ?_, ?_, ?_⟩ <;> simp [World.cell?, World.frozen?, h]
theorem Dd.put3 {w w1 : World} {r q : Nat} (hq : w.heap.size ≤ q) (g : w.grownBy w1 (some r)) (x y z : Value) : w.grownBy (((w1.setCell ⟨q, 0, none⟩ x).setCell ⟨q, 1, none⟩ y).setCell ⟨q, 2, none⟩ z) (some r) ∧
 (r < w.heap.size → ∀ s l e, Ty.RS r s w1 l e → Ty.RS r s (((w1.setCell ⟨q, 0, none⟩ x).setCell ⟨q, 1, none⟩ y).setCell ⟨q, 2, none⟩ z) l e) := by
 have hb : ∀ k, k ≠ q → (((w1.setCell ⟨q, 0, none⟩ x).setCell ⟨q, 1, none⟩ y).setCell ⟨q, 2, none⟩ z).heap[k]? = w1.heap[k]? := fun k hk =>
  ((Below.heap_setCell _ _ _ _ hk).trans (Below.heap_setCell _ _ _ _ hk)).trans (Below.heap_setCell _ _ _ _ hk)
 refine ⟨⟨g.os, g.tape, g.output, by have := g.size; simpa [World.setCell] using this, fun k hk hn => (hb k (by omega)).trans (g.block k hk hn)⟩, fun hr s l e h => ?_⟩
 obtain ⟨a, h1, h2, h3⟩ := h
 exact ⟨a, h1, h2, (hb r (by omega)).trans h3⟩
theorem Dd.by_drew {w w1 : World} {r : Option Nat} (h : w.grownBy w1 r) : w.grownBy w1.drew r := ⟨h.os, h.tape, h.output, h.size, h.block⟩
theorem Dd.RS_drew {r : Nat} {s : ByteArray} {w : World} {l : List UInt8} {e : Nat} (h : Ty.RS r s w l e) : Ty.RS r s w.drew l e := h
set_option maxHeartbeats 2000000 in
set_option maxRecDepth 100000 in
theorem Dd.rvalue_c (r : Nat) (s : ByteArray) (hs : s.size ≤ 140737488351232) (c : Kn.C) (l : List UInt8) (w : World) (h : Ty.RS r s w l 0) :
 Calls Tryz.prog 47 #[.pointer (some ⟨r, 0, none⟩), c.val] w (Dd.RdV r s w (Dd.rdV c l)) := by
 have hG : w.grownBy ((w.alloc (.cells #[.int .i64 c.k, .bool c.null] 50)).alloc (.cells #[.bool false, .int .i64 0, .string ⟨#[]⟩] 43)) (some r) := Ty.by_some (Ty.by_below (((Below.refl _ w).alloc (Nat.le_refl _) _).alloc (by simp) _)) r
 have hb := (Below.refl _ (w.alloc (.cells #[.int .i64 c.k, .bool c.null] 50))).alloc (Nat.le_refl _) (.cells #[.bool false, .int .i64 0, .string ⟨#[]⟩] 43)
 have x0 := (hb.cell (p := ⟨w.heap.size, 0, none⟩) (by simp)).trans (Kn.cell_new w #[.int .i64 c.k, .bool c.null] 50 0 _ rfl)
 have x1 := (hb.cell (p := ⟨w.heap.size, 1, none⟩) (by simp)).trans (Kn.cell_new w #[.int .i64 c.k, .bool c.null] 50 1 _ rfl)
 simp only [List.getElem_toArray, List.getElem_cons_zero, List.getElem_cons_succ] at x0 x1
 have y := heap_alloc_new (w.alloc (.cells #[.int .i64 c.k, .bool c.null] 50)) (.cells #[.bool false, .int .i64 0, .string ⟨#[]⟩] 43)
 rw [World.size_alloc] at y
 have hh : Ty.RS r s ((w.alloc (.cells #[.int .i64 c.k, .bool c.null] 50)).alloc (.cells #[.bool false, .int .i64 0, .string ⟨#[]⟩] 43)) l 0 := Tx.RS_below h (((Below.refl _ w).alloc (Nat.le_refl _) _).alloc (by simp) _) (Tx.RS_lt h)
 have hrl : r < w.heap.size := Tx.RS_lt h
 have hk : (((c.k == 1) = true) ∧ c.k = 1) ∨ ((c.k == 1) = false ∧ c.k ≠ 1) := by
  by_cases h : c.k = 1
  ·left; exact ⟨by rw [h]; rfl, h⟩
  ·right; exact ⟨by rw [beq_eq_false_iff_ne]; exact h, h⟩
 have HG := Lib.hid hG
 have HY := Lib.hid y
 have HH := Lib.hid hh
 clear hG y hh h hb
 unfold Kn.C.val
 cases hc : c.null
 ·rw [Dd.rdV_plain hc]
  rw [hc] at HG HY HH x0 x1
  rcases hk with ⟨hk, hk1⟩ | ⟨hk, hk1⟩
  ·rw [Dd.rdP_num hk1]
   clear hk1 hc
   go_enter Tryz.func47, Tryz.ntmps47
   go_wp2_with fail
   generalize World.alloc _ _ = wo at HG HY HH x0 x1 ⊢
   have cu := Tx.rint_x r s hs l wo HH.out
   with_reducible refine cu.mono ?_
   rintro e w9 ⟨rfl, hR9, g9⟩
   have hy9 : w9.heap[w.heap.size + 1]? = some (.cells #[.bool false, .int .i64 0, .string ⟨#[]⟩] 43 (0, 0)) := by rw [g9.block _ (lt_of_block HY.out) (fun e => by have := Option.some.inj e; omega)]; exact HY.out
   obtain ⟨y0, y1, y2, z0, z1, z2⟩ := Dd.three hy9
   have he := Tx.RS_err hR9
   have HR9 := Lib.hid hR9
   have HG9 := Lib.hid (Ty.by_trans HG.out g9)
   clear cu hR9 g9 hy9
   go_wp2_with fail
   go_region
   go_wp2
   have HP := Lib.hid (Dd.put3 (w := w) (q := w.heap.size + 1) (by omega) HG9.out (.bool false) (.int .i64 (sg l)) (.string ⟨#[]⟩))
   (try simp only [Exit.inBlock, Exit.then])
   refine bodyPost_ret (v := .tuple #[.agg #[.bool false, .int .i64 (sg l), .string ⟨#[]⟩], .int .i64 (((num l).2.2 : Nat) : Int)]) ?_ rfl ⟨rfl, fun h0 => ?_, Dd.by_drew HP.out.1⟩
   ·rw [results_cell_tmp rfl]
    go_simp
   ·have hR := HR9.out
    simp only at h0
    rw [h0] at hR
    exact Dd.RS_drew (HP.out.2 hrl _ _ _ hR)
  ·rw [Dd.rdP_str hk1]
   clear hk1 hc
   go_enter Tryz.func47, Tryz.ntmps47
   go_wp2_with fail
   generalize World.alloc _ _ = wo at HG HY HH x0 x1 ⊢
   have cu := Tx.rtext_r r s hs l wo HH.out
   with_reducible refine cu.mono ?_
   rintro e w9 ⟨rfl, hR9, g9⟩
   have hy9 : w9.heap[w.heap.size + 1]? = some (.cells #[.bool false, .int .i64 0, .string ⟨#[]⟩] 43 (0, 0)) := by rw [g9.block _ (lt_of_block HY.out) (fun e => by have := Option.some.inj e; omega)]; exact HY.out
   obtain ⟨y0, y1, y2, z0, z1, z2⟩ := Dd.three hy9
   have he := Tx.RS_err hR9
   have HR9 := Lib.hid hR9
   have HG9 := Lib.hid (Ty.by_trans HG.out g9)
   clear cu hR9 g9 hy9
   go_wp2_with fail
   go_region
   go_wp2
   have HP := Lib.hid (Dd.put3 (w := w) (q := w.heap.size + 1) (by omega) HG9.out (.bool false) (.int .i64 0) (.string (Ty.S (txt l 64).1)))
   (try simp only [Exit.inBlock, Exit.then])
   refine bodyPost_ret (v := .tuple #[.agg #[.bool false, .int .i64 0, .string (Ty.S (txt l 64).1)], .int .i64 (((txt l 64).2.2 : Nat) : Int)]) ?_ rfl ⟨rfl, fun h0 => ?_, Dd.by_drew HP.out.1⟩
   ·rw [results_cell_tmp rfl]
    go_simp
   ·have hR := HR9.out
    simp only at h0
    rw [h0] at hR
    exact Dd.RS_drew (HP.out.2 hrl _ _ _ hR)
 ·rw [hc] at HG HY HH x0 x1
  have FT := Lib.hid fun h => Dd.rdV_true (l := l) hc h
  have FN := Lib.hid fun h hb => Dd.rdV_nul (l := l) hc h hb
  have FP := Lib.hid fun h hb => Dd.rdV_there (l := l) hc h hb
  have FU := Lib.hid fun (l2 : List UInt8) (h : c.k = 1) => Dd.rdP_num (l := l2) h
  have FS := Lib.hid fun (l2 : List UInt8) (h : c.k ≠ 1) => Dd.rdP_str (l := l2) h
  have CT := Lib.hid fun wz h => Dd.rtruth_c r s hs l wz h
  have HBAD : Hid ((Dd.rdF l).1 ≠ 0 → (Dd.rdF l).2.1 = false) := Lib.hid fun h => by
   cases l with
   | nil => rfl
   | cons b t =>
     simp only [Dd.rdF] at h ⊢
     by_cases h1 : 1 < b.toNat
     ·rw [if_pos h1]
     ·rw [if_neg h1] at h; exact absurd rfl h
  generalize Dd.rdV c l = RV at FT FN FP ⊢
  generalize Dd.rdF l = F at FT FN FP CT HBAD
  obtain ⟨E, B, l2⟩ := F
  simp only at FT FN FP CT HBAD
  clear hc
  by_cases hE : E = 0
  ·subst hE
   cases B
   ·have HR := Lib.hid (FP.out rfl rfl)
    rw [HR.out]
    rcases hk with ⟨hk, hk1⟩ | ⟨hk, hk1⟩
    ·rw [FU.out _ hk1]
     clear hk1
     go_enter Tryz.func47, Tryz.ntmps47
     go_wp2_with fail
     generalize World.alloc _ _ = wo at HG HY HH x0 x1 ⊢
     with_reducible refine (CT.out _ HH.out).mono ?_
     rintro e w1 ⟨rfl, hR1, g1⟩
     have HR1 := Lib.hid (hR1 (by trivial))
     have hne : some w.heap.size ≠ some r := fun e => by have := Option.some.inj e; omega
     have k0 := g1.cell x0 hne
     have HY1 : Hid (w1.heap[w.heap.size + 1]? = some (.cells #[.bool false, .int .i64 0, .string ⟨#[]⟩] 43 (0, 0))) := Lib.hid (by rw [g1.block _ (lt_of_block HY.out) (fun e => by have := Option.some.inj e; omega)]; exact HY.out)
     have HG1 := Lib.hid (Ty.by_trans HG.out g1)
     simp only [Int.natCast_zero]
     clear hR1 g1 hne x0 x1
     go_wp2_with fail
     have cu := Tx.rint_x r s hs l2 w1 HR1.out
     with_reducible refine cu.mono ?_
     rintro e w9 ⟨rfl, hR9, g9⟩
     have hy9 : w9.heap[w.heap.size + 1]? = some (.cells #[.bool false, .int .i64 0, .string ⟨#[]⟩] 43 (0, 0)) := by rw [g9.block _ (lt_of_block HY1.out) (fun e => by have := Option.some.inj e; omega)]; exact HY1.out
     obtain ⟨y0, y1, y2, z0, z1, z2⟩ := Dd.three hy9
     have he := Tx.RS_err hR9
     have HR9 := Lib.hid hR9
     have HG9 := Lib.hid (Ty.by_trans HG1.out g9)
     clear cu hR9 g9 hy9
     go_wp2_with fail
     go_region
     go_wp2
     have HP := Lib.hid (Dd.put3 (w := w) (q := w.heap.size + 1) (by omega) HG9.out (.bool false) (.int .i64 (sg l2)) (.string ⟨#[]⟩))
     (try simp only [Exit.inBlock, Exit.then])
     refine bodyPost_ret (v := .tuple #[.agg #[.bool false, .int .i64 (sg l2), .string ⟨#[]⟩], .int .i64 (((num l2).2.2 : Nat) : Int)]) ?_ rfl ⟨rfl, fun h0 => ?_, Dd.by_drew HP.out.1⟩
     ·rw [results_cell_tmp rfl]
      go_simp
     ·have hR := HR9.out
      simp only at h0
      rw [h0] at hR
      exact Dd.RS_drew (HP.out.2 hrl _ _ _ hR)
    ·rw [FS.out _ hk1]
     clear hk1
     go_enter Tryz.func47, Tryz.ntmps47
     go_wp2_with fail
     generalize World.alloc _ _ = wo at HG HY HH x0 x1 ⊢
     with_reducible refine (CT.out _ HH.out).mono ?_
     rintro e w1 ⟨rfl, hR1, g1⟩
     have HR1 := Lib.hid (hR1 (by trivial))
     have hne : some w.heap.size ≠ some r := fun e => by have := Option.some.inj e; omega
     have k0 := g1.cell x0 hne
     have HY1 : Hid (w1.heap[w.heap.size + 1]? = some (.cells #[.bool false, .int .i64 0, .string ⟨#[]⟩] 43 (0, 0))) := Lib.hid (by rw [g1.block _ (lt_of_block HY.out) (fun e => by have := Option.some.inj e; omega)]; exact HY.out)
     have HG1 := Lib.hid (Ty.by_trans HG.out g1)
     simp only [Int.natCast_zero]
     clear hR1 g1 hne x0 x1
     go_wp2_with fail
     have cu := Tx.rtext_r r s hs l2 w1 HR1.out
     with_reducible refine cu.mono ?_
     rintro e w9 ⟨rfl, hR9, g9⟩
     have hy9 : w9.heap[w.heap.size + 1]? = some (.cells #[.bool false, .int .i64 0, .string ⟨#[]⟩] 43 (0, 0)) := by rw [g9.block _ (lt_of_block HY1.out) (fun e => by have := Option.some.inj e; omega)]; exact HY1.out
     obtain ⟨y0, y1, y2, z0, z1, z2⟩ := Dd.three hy9
     have he := Tx.RS_err hR9
     have HR9 := Lib.hid hR9
     have HG9 := Lib.hid (Ty.by_trans HG1.out g9)
     clear cu hR9 g9 hy9
     go_wp2_with fail
     go_region
     go_wp2
     have HP := Lib.hid (Dd.put3 (w := w) (q := w.heap.size + 1) (by omega) HG9.out (.bool false) (.int .i64 0) (.string (Ty.S (txt l2 64).1)))
     (try simp only [Exit.inBlock, Exit.then])
     refine bodyPost_ret (v := .tuple #[.agg #[.bool false, .int .i64 0, .string (Ty.S (txt l2 64).1)], .int .i64 (((txt l2 64).2.2 : Nat) : Int)]) ?_ rfl ⟨rfl, fun h0 => ?_, Dd.by_drew HP.out.1⟩
     ·rw [results_cell_tmp rfl]
      go_simp
     ·have hR := HR9.out
      simp only at h0
      rw [h0] at hR
      exact Dd.RS_drew (HP.out.2 hrl _ _ _ hR)
   ·have HR := Lib.hid (FN.out rfl rfl)
    go_enter Tryz.func47, Tryz.ntmps47
    go_wp2_with fail
    generalize World.alloc _ _ = wo at HG HY HH x0 x1 ⊢
    with_reducible refine (CT.out _ HH.out).mono ?_
    rintro e w1 ⟨rfl, hR1, g1⟩
    have hy9 : w1.heap[w.heap.size + 1]? = some (.cells #[.bool false, .int .i64 0, .string ⟨#[]⟩] 43 (0, 0)) := by rw [g1.block _ (lt_of_block HY.out) (fun e => by have := Option.some.inj e; omega)]; exact HY.out
    obtain ⟨y0, y1, y2, z0, z1, z2⟩ := Dd.three hy9
    have HG9 := Lib.hid (Ty.by_trans HG.out g1)
    have HR1 := Lib.hid hR1
    simp only [Int.natCast_zero]
    clear hR1 g1 x0 x1 hy9
    go_wp2
    have HP := Lib.hid (Dd.put3 (w := w) (q := w.heap.size + 1) (by omega) HG9.out (.bool true) (.int .i64 0) (.string ⟨#[]⟩))
    (try simp only [Exit.inBlock, Exit.then])
    refine bodyPost_ret (v := .tuple #[.agg #[.bool true, .int .i64 0, .string ⟨#[]⟩], .int .i64 0]) ?_ rfl ⟨by rw [HR.out]; rfl, fun h0 => ?_, HP.out.1⟩
    ·rw [results_cell_tmp rfl]
     go_simp
    ·rw [HR.out]; exact HP.out.2 hrl _ _ _ (HR1.out (by trivial))
  ·have HR := Lib.hid (FT.out hE)
   have hEb : ((E : Int) != 0) = true := by rw [bne_iff_ne]; omega
   obtain rfl := HBAD.out hE
   have HEN := Lib.hid hE
   clear hE
   go_enter Tryz.func47, Tryz.ntmps47
   go_wp2_with fail
   generalize World.alloc _ _ = wo at HG HY HH x0 x1 ⊢
   with_reducible refine (CT.out _ HH.out).mono ?_
   rintro e w1 ⟨rfl, hR1, g1⟩
   have hy9 : w1.heap[w.heap.size + 1]? = some (.cells #[.bool false, .int .i64 0, .string ⟨#[]⟩] 43 (0, 0)) := by rw [g1.block _ (lt_of_block HY.out) (fun e => by have := Option.some.inj e; omega)]; exact HY.out
   obtain ⟨y0, y1, y2, z0, z1, z2⟩ := Dd.three hy9
   have HG9 := Lib.hid (Ty.by_trans HG.out g1)
   have HR1 := Lib.hid hR1
   clear hR1 g1 x0 x1 hy9
   go_wp2
   have HP := Lib.hid (Dd.put3 (w := w) (q := w.heap.size + 1) (by omega) HG9.out (.bool false) (.int .i64 0) (.string ⟨#[]⟩))
   (try simp only [Exit.inBlock, Exit.then])
   refine bodyPost_ret (v := .tuple #[.agg #[.bool false, .int .i64 0, .string ⟨#[]⟩], .int .i64 (E : Int)]) ?_ rfl ⟨by rw [HR.out]; rfl, fun h0 => ?_, HP.out.1⟩
   ·rw [results_cell_tmp rfl]
    go_simp
   ·rw [HR.out] at h0; exact absurd h0 HEN.out
end
end Go.Proofs.YtkhiemkekmdhgaaGreatDoor
