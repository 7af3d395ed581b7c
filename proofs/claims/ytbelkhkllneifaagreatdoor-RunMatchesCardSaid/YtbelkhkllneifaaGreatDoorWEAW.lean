import Derived.Test.YtbelkhkllneifaaGreatDoorWEAT
import Derived.Test.YtbelkhkllneifaaGreatDoorWEAU
import Derived.Test.YtbelkhkllneifaaGreatDoorWEAV
import Derived.Test.YtbelkhkllneifaaGreatDoorWEAI
namespace Go.Proofs.YtbelkhkllneifaaGreatDoor
section
open Go.RowKit
end
section
open Go.RowKit
open Ty (num)
def Cl.T (w : World) : Prop := Ty.Tabs w
theorem Cl.T.below {w w' : World} (h : Cl.T w) (g : Below w.heap.size w w') : Cl.T w' := Ty.Tabs.below h g (Ty.Tabs.two h)
set_option maxHeartbeats 2000000 in
set_option maxRecDepth 100000 in
theorem Cl.write_c (c : Kn.C) (u : Value) (l : List Kn.V) (w : World) (hw : Cl.T w) (hu : Kn.Vals w u l) (hi : ∀ v ∈ l, Ty.I64 v.n) :
 Calls Tryz.prog 99 #[c.val, u] w fun e w' => e = .returned (Cl.wV c l) ∧ Below w.heap.size w w' := by
 have HW : Hid (Ty.Tabs w) := Lib.hid hw
 have HE4 : Hid (c.good = false → Cl.wE c l = 4) := Lib.hid fun h => by unfold Cl.wE; rw [if_neg (by rw [h]; decide)]
 have HE3 : Hid (c.good = true → 65536 < l.length → Cl.wE c l = 3) := Lib.hid fun h h2 => by unfold Cl.wE; rw [if_pos h, if_pos h2]
 have HE6 : Hid (c.good = true → l.length ≤ 65536 → l.all (Cl.is c) = false → Cl.wE c l = 6) := Lib.hid fun h h2 h3 => by unfold Cl.wE; rw [if_pos h, if_neg (by omega), h3, if_neg (by decide)]
 have HE0 : Hid (c.good = true → l.length ≤ 65536 → l.all (Cl.is c) = true → Cl.wE c l = 0) := Lib.hid fun h h2 h3 => by unfold Cl.wE; rw [if_pos h, if_neg (by omega), if_pos h3]
 have HU := Lib.hid hu
 have HI := Lib.hid hi
 obtain ⟨V, hV⟩ : ∃ V, V = Cl.wV c l := ⟨_, rfl⟩
 rw [← hV]
 have HV := Lib.hid hV
 clear hV hi hu hw
 have CW := Lib.hid fun wz => Cl.schemaWith_c c wz
 have CR : Hid (∀ (v : Value) (wz : World), Kn.Cols wz v (Cl.sch c) → Calls Tryz.prog 33 #[v] wz fun e w' => e = .returned (.bool c.good) ∧ Below wz.heap.size wz w') := Lib.hid fun v wz h => by
  have := Kn.right_c v (Cl.sch c) wz h
  rwa [Cl.sch_right] at this
 have CF := Lib.hid fun (v : Value) (wz : World) h1 (h2 : Kn.Cols wz v (Cl.sch c)) (h3 : Kn.Vals wz u l) h4 => Cl.fit_c c v u l wz h1 h2 h3 h4
 have HB0 : Hid (Below w.heap.size w (w.alloc (.cells #[.int .i64 c.k, .bool c.null] 76))) := Lib.hid ((Below.refl _ _).alloc (Nat.le_refl _) _)
 have HX0 := Lib.hid (Kn.cell_new w #[.int .i64 c.k, .bool c.null] 76 0 _ rfl)
 have HX1 := Lib.hid (Kn.cell_new w #[.int .i64 c.k, .bool c.null] 76 1 _ rfl)
 simp only [List.getElem_toArray, List.getElem_cons_zero, List.getElem_cons_succ] at HX0 HX1
 have hsz : (w.alloc (.cells #[.int .i64 c.k, .bool c.null] 76)).heap.size = w.heap.size + 1 := World.size_alloc ..
 obtain ⟨a, cp, rfl, h⟩ := HU.out.is
 clear h
 unfold Kn.C.val at CW ⊢
 cases hg : c.good
 ·rw [hg] at CR
  have HE := Lib.hid (HV.out.trans (Cl.wV_bad (HE4.out hg) (by decide)))
  clear hg
  go_enter Tryz.func99, Tryz.ntmps99
  go_wp2_with fail
  generalize hwo : w.alloc _ = wo at hsz HX0 HX1 HB0 ⊢
  clear hwo
  refine (CW.out _).mono ?_
  rintro e w1 ⟨v, rfl, hS, g1⟩
  have HB1 := Lib.hid (HB0.out.trans (g1.mono HB0.out.size))
  have cr := CR.out _ _ hS
  clear hS g1
  go_wp2_with fail
  refine cr.mono ?_
  rintro e w2 ⟨rfl, g2⟩
  have HB2 := Lib.hid (HB1.out.trans (g2.mono HB1.out.size))
  clear cr g2
  go_wp2
  go_ret2
  exact ⟨by rw [HE.out]; rfl, HB2.out⟩
 ·rw [hg] at CR
  have HG := Lib.hid hg
  clear hg
  by_cases hln : 65536 < l.length
  ·have HE := Lib.hid (HV.out.trans (Cl.wV_bad (HE3.out HG.out hln) (by decide)))
   have hlni : (65536 : Int) < (l.length : Int) := by omega
   clear hln
   go_enter Tryz.func99, Tryz.ntmps99
   go_wp2_with fail
   generalize hwo : w.alloc _ = wo at hsz HX0 HX1 HB0 ⊢
   clear hwo
   refine (CW.out _).mono ?_
   rintro e w1 ⟨v, rfl, hS, g1⟩
   have HB1 := Lib.hid (HB0.out.trans (g1.mono HB0.out.size))
   have cr := CR.out _ _ hS
   clear hS g1
   go_wp2_with fail
   refine cr.mono ?_
   rintro e w2 ⟨rfl, g2⟩
   have HB2 := Lib.hid (HB1.out.trans (g2.mono HB1.out.size))
   clear cr g2
   go_wp2
   go_ret2
   exact ⟨by rw [HE.out]; rfl, HB2.out⟩
  ·have hlni : ¬ (65536 : Int) < (l.length : Int) := by omega
   have hl65 : l.length ≤ 65536 := by omega
   have HL := Lib.hid hl65
   have HF6 := Lib.hid (fun h => HV.out.trans (Cl.wV_bad (HE6.out HG.out hl65 h) (by decide)))
   have HF0 := Lib.hid (fun h => HV.out.trans (Cl.wV_ok (HE0.out HG.out hl65 h)))
   clear hln HE4 HE3 HE6 HE0
   cases hA : l.all (Cl.is c)
   ·have HE := Lib.hid (HF6.out hA)
    rw [hA] at CF
    clear hA hl65
    go_enter Tryz.func99, Tryz.ntmps99
    go_wp2_with fail
    generalize hwo : w.alloc _ = wo at hsz HX0 HX1 HB0 ⊢
    clear hwo
    refine (CW.out _).mono ?_
    rintro e w1 ⟨v, rfl, hS, g1⟩
    have HB1 := Lib.hid (HB0.out.trans (g1.mono HB0.out.size))
    have HS1 := Lib.hid hS
    have cr := CR.out _ _ hS
    clear hS g1
    go_wp2_with fail
    refine cr.mono ?_
    rintro e w2 ⟨rfl, g2⟩
    have HB2 := Lib.hid (HB1.out.trans (g2.mono HB1.out.size))
    have cf := CF.out _ w2 HG.out (HS1.out.later g2) (HU.out.later HB2.out) HL.out
    clear cr g2
    go_wp2_with fail
    refine cf.mono ?_
    rintro e w3 ⟨rfl, g3⟩
    have HB3 := Lib.hid (HB2.out.trans (g3.mono HB2.out.size))
    clear cf g3
    go_wp2
    go_ret2
    exact ⟨by rw [HE.out]; rfl, HB3.out⟩
   ·have HE := Lib.hid (HF0.out hA)
    rw [hA] at CF
    have HA := Lib.hid hA
    have hwk : IntKind.u64.wrap (l.length : Int) = (l.length : Int) := by rw [IntKind.wrap_u64]; omega
    have HWK := Lib.hid hwk
    have CU := Lib.hid fun wz hT => Ty.uintNil (l.length : Int) (by omega) (show Ty.U64 ((l.length : Int)).toNat by rw [Int.toNat_natCast]; unfold Ty.U64; omega) wz hT
    rw [Int.toNat_natCast] at CU
    clear hA hl65 HF6 HF0
    go_enter Tryz.func99, Tryz.ntmps99
    go_wp2_with fail
    generalize hwo : w.alloc _ = wo at hsz HX0 HX1 HB0 ⊢
    clear hwo
    refine (CW.out _).mono ?_
    rintro e w1 ⟨v, rfl, hS, g1⟩
    have HB1 := Lib.hid (HB0.out.trans (g1.mono HB0.out.size))
    have HS1 := Lib.hid hS
    have HY1 := Lib.hid ((g1.cell (p := ⟨w.heap.size, 0, none⟩) (by simp [hsz])).trans HX0.out)
    have cr := CR.out _ _ hS
    have hs1 : w.heap.size < w1.heap.size := by have := g1.size; omega
    clear hS g1
    go_wp2_with fail
    refine cr.mono ?_
    rintro e w2 ⟨rfl, g2⟩
    have HB2 := Lib.hid (HB1.out.trans (g2.mono HB1.out.size))
    have HY2 := Lib.hid ((g2.cell (p := ⟨w.heap.size, 0, none⟩) hs1).trans HY1.out)
    have hs2 : w.heap.size < w2.heap.size := by have := g2.size; omega
    have cf := CF.out _ w2 HG.out (HS1.out.later g2) (HU.out.later HB2.out) HL.out
    clear cr g2
    go_wp2_with fail
    refine cf.mono ?_
    rintro e w3 ⟨rfl, g3⟩
    have HB3 := Lib.hid (HB2.out.trans (g3.mono HB2.out.size))
    have HY3 := Lib.hid ((g3.cell (p := ⟨w.heap.size, 0, none⟩) hs2).trans HY2.out)
    have hs3 : w.heap.size < w3.heap.size := by have := g3.size; omega
    have cs := Cl.split_c _ l w3 (HU.out.later HB3.out) HL.out
    clear cf g3
    go_wp2_with fail
    refine cs.mono ?_
    rintro e w4 ⟨vn, vp, rfl, hN, hP, g4⟩
    have HB4 := Lib.hid (HB3.out.trans (g4.mono HB3.out.size))
    have HY4 := Lib.hid ((g4.cell (p := ⟨w.heap.size, 0, none⟩) hs3).trans HY3.out)
    have hs4 : w.heap.size < w4.heap.size := by have := g4.size; omega
    have HN4 := Lib.hid hN
    have HP4 := Lib.hid hP
    have cu := CU.out w4 (HW.out.below HB4.out HW.out.two)
    clear cs g4 hN hP
    go_wp2_with fail
    refine cu.mono ?_
    rintro e w5 ⟨v5, rfl, hB5, hT5, g5⟩
    have hcv := hB5.str
    have HB5 := Lib.hid (HB4.out.trans (g5.mono HB4.out.size))
    have hx0 := (g5.cell (p := ⟨w.heap.size, 0, none⟩) hs4).trans HY4.out
    have HN5 := Lib.hid (HN4.out.later g5)
    have HP5 := Lib.hid (HP4.out.later g5)
    have HT5 := Lib.hid hT5
    clear cu g5 hB5 hT5
    go_wp2_with fail
    have E0 := fun d os => cell_regrown hx0 d os
    have hvl := Cl.vals_len HA.out HL.out
    have hnn := (Bt.need_room l.length).2
    have CTP : ∀ p : Regrown, Calls Tryz.prog 97 #[vn] (Sort.grow (redrawn w5 p.d) p.os) fun e w'' => e = .returned (.string (Bt.bytes (Bt.need l.length) (Bt.tr l.length (Cl.nulls l)))) ∧ ∃ p : Regrown, w'' = Sort.grow (redrawn w5 p.d) p.os := fun p => Calls.regrown_of (Bt.truths_c vn l.length (Cl.nulls l) _ (HN5.out.later (below_regrown w5 p.d p.os)) (by have := HL.out; omega))
    have CPP : ∀ p : Regrown, Calls Tryz.prog 127 #[.int .i64 c.k, vp] (Sort.grow (redrawn w5 p.d) p.os) fun e w'' => e = .returned (.string (Ty.S (Cl.vals c l))) ∧ ∃ p : Regrown, w'' = Sort.grow (redrawn w5 p.d) p.os := fun p => Calls.regrown_of (Cl.writePresent_c c.k vp (Cl.live l) _ (HT5.out.below (below_regrown w5 p.d p.os) HT5.out.two) (HP5.out.later (below_regrown w5 p.d p.os)) (Nat.le_trans (Cl.live_len l) HL.out) (fun v hv => HI.out v (List.mem_filter.1 hv).1) ((Cl.good_iff c).1 HG.out) (fun h => Cl.words_fit (c := c) (by omega) HA.out HL.out))
    have hen : Cl.enc c l = Ty.encU l.length ++ ((Bt.bytes (Bt.need l.length) (Bt.tr l.length (Cl.nulls l))).data.toList ++ Cl.vals c l) := rfl
    have hA9 : (Ty.S (Ty.encU l.length)).size ≤ 9 := Ty.encU_len9 l.length
    have hB9 : (Bt.bytes (Bt.need l.length) (Bt.tr l.length (Cl.nulls l))).size = Bt.need l.length := Bt.size_bytes _ _
    have hC9 : (Ty.S (Cl.vals c l)).size ≤ 4800000 := hvl
    have hl6 := HL.out
    obtain ⟨A, hA⟩ : ∃ A, A = Ty.S (Ty.encU l.length) := ⟨_, rfl⟩
    obtain ⟨B, hBB⟩ : ∃ B, B = Bt.bytes (Bt.need l.length) (Bt.tr l.length (Cl.nulls l)) := ⟨_, rfl⟩
    obtain ⟨D, hDD⟩ : ∃ D, D = Ty.S (Cl.vals c l) := ⟨_, rfl⟩
    have HABD : Hid (Ty.S (Cl.enc c l) = (A ++ B) ++ D) := Lib.hid (by
     rw [hA, hBB, hDD, hen, ← Ig.S_add, ← Ig.S_add, Ty.S_data, ByteArray.append_assoc])
    rw [← hA] at hA9 ⊢
    rw [← hBB] at CTP hB9
    rw [← hDD] at CPP hC9
    have n1 : ¬ 9223372036854775807 < A.size + B.size := by omega
    have n2 : ¬ 9223372036854775807 < A.size + B.size + D.size := by omega
    have CTQ := Lib.hid CTP
    have CPQ := Lib.hid CPP
    clear CTP CPP hen hvl hnn hA hBB hDD hA9 hB9 hC9 hl6
    refine wp_region_quiet_below (by kernel_rfl) (by kernel_rfl) ?_
    repeat (go_big_quiet_step (first | with_reducible exact CTQ.out _ | with_reducible exact CPQ.out _))
    refine wpQuiet_nil ?_
    intro wq hw'
    have HBQ := Lib.hid (HB5.out.trans ((Ig.below_reg hw').mono HB5.out.size))
    clear hw'
    go_wp2
    go_ret2
    exact ⟨by rw [HE.out, HABD.out]; rfl, HBQ.out⟩
theorem Cl.back_fit {c : Kn.C} (hg : c.good = true) {r : List UInt8} (h : (Cl.back c r).1 = 0) : c.k = 2 → Tx.fit ((Cl.back c r).2.map fun v => v.s.data.toList) = true := fun hk => by
 have hb := Cl.back_is hg h
 have hl := Cl.back_len c r
 unfold Tx.fit
 simp only [Bool.and_eq_true, decide_eq_true_iff, List.all_eq_true]
 refine ⟨by rw [List.length_map]; exact hl, fun t ht => ?_⟩
 obtain ⟨v, hv, rfl⟩ := List.mem_map.1 ht
 exact (Cl.is_str (by omega) (hb v hv).2.1 (hb v hv).1).2
end
section
open Go.RowKit
open Ty (num)
set_option maxHeartbeats 1000000 in
set_option maxRecDepth 100000 in
theorem Bk.untruths_c (s : ByteArray) (z : Int) (w : World) (hs : s.size ≤ 140737488355328) :
 Calls Tryz.prog 150 #[.string s, .int .i64 z] w fun e w' => ∃ v, e = .returned (.tuple #[v, .int .i64 (Bt.utE s z : Nat)]) ∧ Bt.Sl w' v (Bt.utN s z) (Bt.bv (Bt.bit s)) ∧ Dd.Fresh w.heap.size v ∧ Below w.heap.size w w' := by
 have c0 := Bt.rightCount_c z
 by_cases hz : 0 ≤ z ∧ z ≤ 65536
 ·rw [decide_eq_true hz] at c0
  obtain ⟨n, rfl⟩ := Int.eq_ofNat_of_zero_le hz.1
  have hn : n ≤ 65536 := by omega
  have c1 := fun w => Bt.check_c s n w (by omega) (by omega)
  have e1 : Bt.utE s (n : Int) = Bt.chk s n := by unfold Bt.utE; rw [if_pos hz]; rfl
  have e2 : Bt.utN s (n : Int) = if Bt.chk s n = 0 then n else 0 := by unfold Bt.utN; rw [e1]; rfl
  rw [e1, e2]
  by_cases hc : Bt.chk s n = 0
  ·rw [if_pos hc]
   obtain ⟨hsz, _⟩ := Bt.chk_ok hc
   have hroom := (Bt.need_room n).1
   rw [hc] at c1 ⊢
   have hmk := run_make_row' (P := Tryz.prog) 132 4 (.bool false) 1 Tryz.underlying132 Bt.infoB rfl .i64 .i64 n (by omega) (by omega)
   have HS : Hid (n ≤ 8 * s.size) := Lib.hid (by omega)
   clear hsz hroom hc e1 e2 hz
   go_enter Tryz.func150, Tryz.ntmps150
   go_wp2_with fail
   refine (c0 _).mono ?_
   rintro e w0 ⟨rfl, rfl⟩
   go_wp2_with fail
   refine (c1 _).mono ?_
   rintro e w1 ⟨rfl, rfl⟩
   go_wp2_with fail
   have hR : (w1.alloc (.cells (madeCells #[.bool false] n) 4)).rowIs w1.heap.size 4 n (Bt.upTo 0 (Bt.bv (Bt.bit s)) (.bool false)) := (World.rowIs_made w1 (.bool false) n 4).congr fun i _ => by unfold Bt.upTo; rw [if_neg (by omega)]
   have hB : Below w1.heap.size w1 (w1.alloc (.cells (madeCells #[.bool false] n) 4)) := (Below.refl _ _).alloc (Nat.le_refl _) _
   generalize w1.alloc (.cells (madeCells #[.bool false] n) 4) = w2 at hR hB ⊢
   clear hmk c0 c1
   generalize hg : w1.heap.size = g at hR hB
   have HGE := Lib.hid hg
   clear hg
   go_loopw [21] (fun i wr => ∃ k : Nat, k ≤ n ∧ i = .int .i64 k ∧ wr.rowIs g 4 n (Bt.upTo k (Bt.bv (Bt.bit s)) (.bool false)) ∧ Below g w1 wr) (fun i _ => n - (intOf i).toNat)
   case atStart => exact ⟨0, by omega, rfl, hR, hB⟩
   case round =>
    obtain ⟨k, hk, rfl, hRk, hBk⟩ := hrel
    have HR := Lib.hid hRk
    clear hR hB hRk
    by_cases hl : k < n
    ·have hkl : (k : Int) < (n : Int) := by omega
     have hk0 : (0 : Int) ≤ (k : Int) := by omega
     have hf := HR.out.frozen k
     have cg := fun w => Bt.get_c s k 1 w (by omega) (by have := HS.out; omega) (by omega)
     rw [Bt.num_one] at cg
     simp only [Nat.add_zero] at cg
     have hcl := HR.out.cell hl
     cases hb : Bt.bit s k
     ·rw [hb] at cg
      have HBT := Lib.hid hb
      clear hb
      go_wp2_with fail
      refine (cg _).mono ?_
      rintro e w3 ⟨rfl, rfl⟩
      go_wp2
      go_roundw
      case rel => exact ⟨k + 1, by omega, by simp, Bt.upTo_next HR.out (by unfold Bt.bv; rw [HBT.out]), hBk.trans (Bt.below_set (Nat.le_refl _) _)⟩
      case measure => simp [intOf]; omega
     ·rw [hb] at cg
      have HBT := Lib.hid hb
      clear hb
      go_wp2_with fail
      refine (cg _).mono ?_
      rintro e w3 ⟨rfl, rfl⟩
      go_wp2
      go_roundw
      case rel => exact ⟨k + 1, by omega, by simp, Bt.upTo_next HR.out (by unfold Bt.bv; rw [HBT.out]), hBk.trans (Bt.below_set (Nat.le_refl _) _)⟩
      case measure => simp [intOf]; omega
    ·obtain rfl : k = n := by omega
     have hkl : ¬ (k : Int) < (k : Int) := by omega
     go_wp2
     go_ret2
     exact ⟨_, rfl, Bt.Sl.row (HR.out.congr fun i hi => by unfold Bt.upTo; rw [if_pos hi]), (fun b hb => by cases hb; rw [HGE.out]; exact Nat.le_refl _), by rw [HGE.out]; exact hBk⟩
  ·rw [if_neg hc]
   generalize Bt.chk s n = C at hc c1 ⊢
   have hC : ((C : Int) != 0) = true := by rw [bne_iff_ne]; omega
   clear e1 e2 hz hc
   go_enter Tryz.func150, Tryz.ntmps150
   go_wp2_with fail
   refine (c0 _).mono ?_
   rintro e w0 ⟨rfl, rfl⟩
   go_wp2_with fail
   refine (c1 _).mono ?_
   rintro e w1 ⟨rfl, rfl⟩
   go_wp2
   go_ret2
   exact ⟨_, rfl, Bt.Sl.nil _ _, Dd.Fresh.nil _, Below.refl _ _⟩
 ·rw [decide_eq_false hz] at c0
  have e1 : Bt.utE s z = 1 := by unfold Bt.utE; rw [if_neg hz]
  have e2 : Bt.utN s z = 0 := by unfold Bt.utN; rw [e1]; rfl
  rw [e1, e2]
  clear e1 e2 hz
  go_enter Tryz.func150, Tryz.ntmps150
  go_wp2_with fail
  refine (c0 _).mono ?_
  rintro e w0 ⟨rfl, rfl⟩
  go_wp2
  go_ret2
  exact ⟨_, rfl, Bt.Sl.nil _ _, Dd.Fresh.nil _, Below.refl _ _⟩
set_option maxHeartbeats 2000000 in
set_option maxRecDepth 100000 in
theorem Bk.join_c (v u : Value) (n : Nat) (F : Nat → Bool) (M : List Kn.V) (w : World) (hv : Bt.Sl w v n (Bt.bv F)) (hu : Kn.Vals w u M) (hn : n ≤ 65536) (hM : M.length = Cl.cnt F n) :
 Calls Tryz.prog 173 #[v, u] w fun e w' => ∃ O p, e = .returned p ∧ Cl.fill ((List.range n).map F) M = some O ∧ Kn.Vals w' p O ∧ Dd.Fresh w.heap.size p ∧ Below w.heap.size w w' := by
 obtain ⟨a, cp, rfl, h⟩ := hv
 obtain ⟨a2, cp2, rfl, h2⟩ := hu
 have HH := Lib.hid h
 have HH2 := Lib.hid h2
 have hmk := Cl.run_makeV n (by omega)
 have HM0 := Lib.hid (Cl.MidF.start ((List.range n).map F) M)
 have hTl : ((List.range n).map F).length = n := by simp
 have HTG : Hid (∀ k, k < n → ((List.range n).map F)[k]? = some (F k)) := Lib.hid fun k hk => by rw [List.getElem?_map, List.getElem?_range hk]; rfl
 have HN := Lib.hid hn
 have HML := Lib.hid hM
 have HCM : Hid (∀ k, k < n → F k = false → Cl.cnt F k + 1 ≤ M.length) := Lib.hid fun k hk hf => by
  have := Cl.cnt_mono F (show k + 1 ≤ n by omega)
  rw [Cl.cnt_live hf] at this
  omega
 generalize (List.range n).map F = T at HM0 hTl HTG ⊢
 have HTL := Lib.hid hTl
 clear h h2 hTl hM hn
 go_enter Tryz.func173, Tryz.ntmps173
 go_wp2_with fail
 have hR := Cl.Row.start (w := w) (n := n)
 have hB : Below w.heap.size w (w.alloc (.cells (madeCells #[.bool false, .int .i64 0, .string ⟨#[]⟩] (n * 3)) 33)) := (Below.refl _ _).alloc (Nat.le_refl _) _
 generalize w.alloc _ = w2 at hR hB ⊢
 clear hmk
 obtain ⟨g, hg⟩ : ∃ g, g = w.heap.size := ⟨_, rfl⟩
 rw [← hg] at hR hB ⊢
 have HGE := Lib.hid hg
 clear hg
 go_loopw [6, 14] (fun j i wr => ∃ (k : Nat) (O : List Kn.V), k ≤ n ∧ i = .int .i64 k ∧ j = .int .i64 (Cl.cnt F k : Nat) ∧ Cl.MidF T M k (Cl.cnt F k) O ∧ Cl.Row wr g n (Cl.fo O) ∧ Below g w wr) (fun _ i _ => n - (intOf i).toNat)
 case atStart => exact ⟨0, [], by omega, rfl, rfl, HM0.out, hR, hB⟩
 case round =>
  obtain ⟨k, O, hk, rfl, rfl, hM, hRk, hBk⟩ := hrel
  have HR := Lib.hid hRk
  have HB := Lib.hid hBk
  have HM := Lib.hid hM
  have HOL := Lib.hid hM.1
  have hgl : g < wr.heap.size := hRk.lt
  clear hR hB hRk hBk hM HM0
  have hj0 : (0 : Int) ≤ (Cl.cnt F k : Int) := by omega
  have hk0 : (0 : Int) ≤ (k : Int) := by omega
  by_cases hl : k < n
  ·rcases HH.out with h | ⟨b, o, rfl, hb, h⟩
   ·omega
   ·have hblg : b < g := by rw [HGE.out]; exact hb
    have hc := (HB.out.cell (p := ⟨b, o + k, none⟩) hblg).trans (h k hl)
    unfold Bt.bv at hc
    have hkl : (k : Int) < (n : Int) := by omega
    have hT := HTG.out k hl
    have hj6 := Cl.cnt_le F k
    have hn6 := HN.out
    cases hF : F k
    ·have hJ := HCM.out k hl hF
     have HC := Lib.hid (Cl.cnt_live hF)
     rw [hF] at hc hT
     generalize Cl.cnt F k = j at HM hj0 hj6 hJ HC ⊢
     rcases HH2.out with h2 | ⟨b2, o2, rfl, hb2, hm2, h2⟩
     ·exact absurd hJ (by rw [h2]; simp)
     ·obtain ⟨x, hx⟩ : ∃ x, M[j]? = some x := ⟨_, List.getElem?_eq_getElem (by omega)⟩
      have hblg2 : b2 < g := by rw [HGE.out]; exact hb2
      have hA := h2 j x hx
      have a0 := (HB.out.cell (p := ⟨b2, o2 + j * 3, none⟩) hblg2).trans hA.c0
      have a1 := (HB.out.cell (p := ⟨b2, o2 + j * 3 + 1, none⟩) hblg2).trans hA.c1
      have a2 := (HB.out.cell (p := ⟨b2, o2 + j * 3 + 2, none⟩) hblg2).trans hA.c2
      have hji : (j : Int) < (M.length : Int) := by omega
      have r0 := HR.out.c0 hl
      have r1 := HR.out.c1 hl
      have r2 := HR.out.c2 hl
      have f0 := World.rowIs.frozen HR.out (k * 3)
      have f1 := World.rowIs.frozen HR.out (k * 3 + 1)
      have f2 := World.rowIs.frozen HR.out (k * 3 + 2)
      have HMN := Lib.hid (HM.out.live hT hx)
      clear h h2 hx hA hm2 hT hF
      go_wp2
      go_roundw
      case rel => exact ⟨k + 1, O ++ [x], by omega, by simp, by rw [HC.out]; simp, by rw [HC.out]; exact HMN.out, HR.out.snoc_v HOL.out x, Cl.below_cell (Cl.below_cell (Cl.below_cell HB.out (Nat.le_refl _) _) (Nat.le_refl _) _) (Nat.le_refl _) _⟩
      case measure => simp [intOf]; omega
    ·have HC := Lib.hid (Cl.cnt_null hF)
     rw [hF] at hc hT
     generalize Cl.cnt F k = j at HM hj0 hj6 HC ⊢
     have r0 := HR.out.c0 hl
     have f0 := World.rowIs.frozen HR.out (k * 3)
     have HMN := Lib.hid (HM.out.null hT)
     clear h hT hF
     go_wp2
     go_roundw
     case rel => exact ⟨k + 1, O ++ [Cl.nul], by omega, by simp, by rw [HC.out], by rw [HC.out]; exact HMN.out, HR.out.snoc_nul HOL.out, Cl.below_cell HB.out (Nat.le_refl _) _⟩
     case measure => simp [intOf]; omega
  ·obtain rfl : k = n := by omega
   have hkl : ¬ (k : Int) < (k : Int) := by omega
   have hn6 := HN.out
   have HF := Lib.hid (HM.out.done HTL.out.symm HML.out.symm)
   go_wp2
   go_ret
   exact ⟨O, _, rfl, HF.out, HR.out.done HOL.out (by omega), (fun b hb => by cases hb; rw [HGE.out]; exact Nat.le_refl _), by have := HB.out; rwa [HGE.out] at this⟩
set_option maxHeartbeats 4000000 in
set_option maxRecDepth 100000 in
theorem Bk.read6_c (c : Kn.C) (s : ByteArray) (w : World) (hw : Ty.Tabs w) (hs : s.size ≤ 140737488351232) :
 Calls Tryz.prog 152 #[c.val, .string s] w (Bk.GotF w (Cl.rd c s.data.toList)) := by
 have HW : Hid (Ty.Tabs w) := Lib.hid hw
 obtain ⟨R, hR⟩ : ∃ R, R = Cl.rd c s.data.toList := ⟨_, rfl⟩
 rw [← hR]
 have HRR := Lib.hid hR
 clear hR hw
 have CW := Lib.hid fun wz => Cl.schemaWith_c c wz
 have CR : Hid (∀ (v : Value) (wz : World), Kn.Cols wz v (Cl.sch c) → Calls Tryz.prog 33 #[v] wz fun e w' => e = .returned (.bool c.good) ∧ Below wz.heap.size wz w') := Lib.hid fun v wz h => by
  have := Kn.right_c v (Cl.sch c) wz h
  rwa [Cl.sch_right] at this
 have HB0 : Hid (Below w.heap.size w (w.alloc (.cells #[.int .i64 c.k, .bool c.null] 76))) := Lib.hid ((Below.refl _ _).alloc (Nat.le_refl _) _)
 have HX0 := Lib.hid (Kn.cell_new w #[.int .i64 c.k, .bool c.null] 76 0 _ rfl)
 have HX1 := Lib.hid (Kn.cell_new w #[.int .i64 c.k, .bool c.null] 76 1 _ rfl)
 simp only [List.getElem_toArray, List.getElem_cons_zero, List.getElem_cons_succ] at HX0 HX1
 have hsz : (w.alloc (.cells #[.int .i64 c.k, .bool c.null] 76)).heap.size = w.heap.size + 1 := World.size_alloc ..
 unfold Kn.C.val at CW ⊢
 cases hg : c.good
 ·rw [hg] at CR
  have HE := Lib.hid (HRR.out.trans (Cl.rd_k hg))
  clear hg
  go_enter Tryz.func152, Tryz.ntmps152
  go_wp2_with fail
  generalize hwo : w.alloc _ = wo at hsz HX0 HX1 HB0 ⊢
  clear hwo
  refine (CW.out _).mono ?_
  rintro e w1 ⟨v, rfl, hS, g1⟩
  have HB1 := Lib.hid (HB0.out.trans (g1.mono HB0.out.size))
  have cr := CR.out _ _ hS
  clear hS g1
  go_wp2_with fail
  refine cr.mono ?_
  rintro e w2 ⟨rfl, g2⟩
  have HB2 := Lib.hid (HB1.out.trans (g2.mono HB1.out.size))
  clear cr g2
  go_wp2
  go_ret2
  exact Bk.GotF.bad HE.out rfl HB2.out
 ·rw [hg] at CR
  have HG := Lib.hid hg
  have CN := Lib.hid fun wz hT => Cl.readNulls_c s wz hT hs
  unfold Cl.RN at CN
  have F1 := Lib.hid fun h => HRR.out.trans (Cl.rd_rn HG.out h)
  have F6 := Lib.hid fun h1 h2 h3 => HRR.out.trans (Cl.rd_has HG.out h1 h2 h3)
  have FV := Lib.hid fun h1 h2 => HRR.out.trans (Cl.rd_vals HG.out h1 h2)
  have HVL : Hid ((Cl.vb s.data.toList).length ≤ 140737488351232) := Lib.hid (by
   unfold Cl.vb
   rw [List.length_drop]
   have := Tx.rest_le s.data.toList
   rw [Ty.length_data] at this
   omega)
  have HNL : Hid (Cl.rnE s.data.toList = 0 → (num s.data.toList).1 ≤ 65536) := Lib.hid fun h => by
   have := (Cl.rn_0 h).2.1
   omega
  generalize Cl.rnE s.data.toList = Q at CN F1 F6 FV HNL
  generalize Bt.bit (Cl.bb s.data.toList) = F at CN F6 FV
  generalize Cl.vb s.data.toList = r9 at CN FV HVL
  generalize (num s.data.toList).1 = n at CN F6 FV HNL
  clear hg hs
  go_enter Tryz.func152, Tryz.ntmps152
  go_wp2_with fail
  generalize hwo : w.alloc _ = wo at hsz HX0 HX1 HB0 ⊢
  clear hwo
  refine (CW.out _).mono ?_
  rintro e w1 ⟨v, rfl, hS, g1⟩
  have HB1 := Lib.hid (HB0.out.trans (g1.mono HB0.out.size))
  have HY1 := Lib.hid (And.intro ((g1.cell (p := ⟨w.heap.size, 0, none⟩) (by simp [hsz])).trans HX0.out) ((g1.cell (p := ⟨w.heap.size, 1, none⟩) (by simp [hsz])).trans HX1.out))
  have hs1 : w.heap.size < w1.heap.size := by have := g1.size; omega
  have cr := CR.out _ _ hS
  clear hS g1
  go_wp2_with fail
  refine cr.mono ?_
  rintro e w2 ⟨rfl, g2⟩
  have HB2 := Lib.hid (HB1.out.trans (g2.mono HB1.out.size))
  have HY2 := Lib.hid (And.intro ((g2.cell (p := ⟨w.heap.size, 0, none⟩) hs1).trans HY1.out.1) ((g2.cell (p := ⟨w.heap.size, 1, none⟩) hs1).trans HY1.out.2))
  have hs2 : w.heap.size < w2.heap.size := by have := g2.size; omega
  have cn := CN.out w2 (HW.out.below HB2.out HW.out.two)
  clear cr g2
  go_wp2_with fail
  refine cn.mono ?_
  rintro e w3 ⟨vn, t, rfl, hN, g3⟩
  have HB3 := Lib.hid (HB2.out.trans (g3.mono HB2.out.size))
  have HY3 := Lib.hid (And.intro ((g3.cell (p := ⟨w.heap.size, 0, none⟩) hs2).trans HY2.out.1) ((g3.cell (p := ⟨w.heap.size, 1, none⟩) hs2).trans HY2.out.2))
  have hs3 : w.heap.size < w3.heap.size := by have := g3.size; omega
  clear cn g3 hs1 hs2 hsz
  by_cases hQ : Q = 0
  ·subst hQ
   obtain ⟨rfl, hSl⟩ := hN rfl
   have HS3 := Lib.hid hSl
   have HN6 := Lib.hid (HNL.out rfl)
   have F6' := Lib.hid (F6.out rfl)
   have FV' := Lib.hid (FV.out rfl)
   have CC := Lib.hid (Cl.contains_c vn n F w3 hSl HN6.out)
   have CP := Cl.readPresent_c c HG.out (Ty.S r9) w3 (HW.out.below HB3.out HW.out.two) (by rw [Ty.size_S]; exact HVL.out)
   rw [Ty.data_S] at CP
   have CPH := Lib.hid CP
   simp only [Int.natCast_zero]
   obtain ⟨hx0, hx1⟩ := HY3.out
   have hways : c.null = true ∨ (c.null = false ∧ Cl.has F n = true) ∨ (c.null = false ∧ Cl.has F n = false) := by
    cases c.null <;> cases Cl.has F n <;> simp
   clear hN hSl F1 F6 FV HNL CN CP CW CR HX0 HX1 HB0 HB1 HB2 HY1 HY2
   rcases hways with hn | ⟨hn, hh⟩ | ⟨hn, hh⟩
   rotate_left 1
   ·have HE := Lib.hid (F6'.out hh hn)
    rw [hn] at hx1
    rw [hh] at CC
    clear hn hh
    go_wp2_with fail
    refine CC.out.mono ?_
    rintro e w4 ⟨rfl, rfl⟩
    go_wp2
    go_ret2
    exact Bk.GotF.bad HE.out rfl HB3.out
   all_goals
    have HVR := Lib.hid (FV'.out (by first | exact .inl hn | exact .inr hh))
    rw [hn] at hx1
    try rw [hh] at CC
    clear hn
    go_wp2_with fail
    first
     | with_reducible refine CPH.out.mono ?_
     | (with_reducible refine CC.out.mono ?_
        (rintro e w4 ⟨rfl, h4⟩)
        subst w4
        go_wp2_with fail
        with_reducible refine CPH.out.mono ?_)
    rintro e w5 ⟨vp, rfl, hV5, g5⟩
    have HB5 := Lib.hid (HB3.out.trans (g5.mono HB3.out.size))
    have hz0 := (g5.cell (p := ⟨w.heap.size, 0, none⟩) hs3).trans hx0
    have HZ0 := Lib.hid hz0
    have HS5 := Lib.hid (HS3.out.later g5)
    have HT5 := Lib.hid (HW.out.below HB5.out HW.out.two)
    have HV5 := Lib.hid hV5
    have hs5 : w.heap.size < w5.heap.size := by have := g5.size; omega
    have CPC := Lib.hid (Cl.presentCount_c vn n F w5 HS5.out HN6.out)
    have BL := Cl.back_len c r9
    have GI := Lib.hid fun h v hv => (Cl.back_is (r := r9) HG.out h v hv).2.2
    have GF := Lib.hid fun h => Cl.back_fit (r := r9) HG.out h
    have Ge := Lib.hid fun h => HVR.out.trans (Cl.rdV_e h)
    have Gc := Lib.hid fun h h2 => HVR.out.trans (Cl.rdV_cnt h h2)
    have Gn := Lib.hid fun h h2 h3 => HVR.out.trans (Cl.rdV_ne HG.out h h2 h3)
    have Gq := Lib.hid fun h h2 (O : List Kn.V) h3 => HVR.out.trans (Cl.rdV_eq HG.out h h2 (out := O) h3)
    rw [Cl.cnt_lives] at Gc Gn
    generalize Cl.back c r9 = bk at HV5 BL GI GF Ge Gc Gn Gq hV5 ⊢
    obtain ⟨E9, M⟩ := bk
    simp only at HV5 BL GI GF Ge Gc Gn Gq hV5 ⊢
    obtain ⟨a5, cp5, rfl, h5⟩ := hV5.is
    clear h5 hV5 g5 hx0 hx1 CC CPH F6' FV' HVR HY3
    by_cases hE9 : E9 = 0
    ·subst hE9
     have GI' := Lib.hid (GI.out rfl)
     have GF' := Lib.hid (GF.out rfl)
     have Gc' := Lib.hid (Gc.out rfl)
     have Gn' := Lib.hid (Gn.out rfl)
     have Gq' := Lib.hid (Gq.out rfl)
     simp only [Int.natCast_zero]
     clear GI GF Ge Gc Gn Gq
     go_wp2_with fail
     refine CPC.out.mono ?_
     rintro e w6 ⟨rfl, h6⟩
     subst w6
     by_cases hcn : M.length = Cl.cnt F n
     ·have CJ := Lib.hid fun wz (h1 : Bt.Sl wz vn n (Bt.bv F)) (h2 : Kn.Vals wz (.slice a5 M.length cp5) M) => Bk.join_c vn _ n F M wz h1 h2 HN6.out hcn
      have hcb : ((M.length : Int) != (Cl.cnt F n : Int)) = false := by rw [hcn]; simp
      have CWP := Cl.writePresent_c c.k _ M w5 HT5.out HV5.out BL GI'.out ((Cl.good_iff c).1 HG.out) GF'.out
      have HCN := Lib.hid hcn
      clear hcn
      by_cases hpv : Cl.pv c.k M = r9
      ·rw [hpv] at CWP
       have HGQ := Lib.hid (Gq'.out hpv)
       have hself : ((Ty.S r9).toList == (Ty.S r9).toList) = true := by simp
       clear hpv
       go_wp2_with fail
       with_reducible refine CWP.mono ?_
       rintro e w7 ⟨rfl, g7⟩
       have HB7 := Lib.hid (HB5.out.trans (g7.mono HB5.out.size))
       have cj := CJ.out w7 (HS5.out.later g7) (HV5.out.later g7)
       clear CWP g7
       go_wp2_with fail
       with_reducible refine cj.mono ?_
       rintro e w8 ⟨O, p8, rfl, hf8, hV8, hn8, g8⟩
       have HE := Lib.hid (HGQ.out O hf8)
       have HV8 := Lib.hid hV8
       have HN8 := Lib.hid (show Dd.Fresh w.heap.size p8 from fun k hk => Nat.le_trans HB7.out.size (hn8 k hk))
       have HB8 := Lib.hid (HB7.out.trans (g8.mono HB7.out.size))
       clear cj hf8 hV8 hn8 g8
       go_wp2
       go_ret2
       exact Bk.GotF.good HE.out HV8.out HN8.out HB8.out
      ·have HE := Lib.hid (Gn'.out HCN.out hpv)
       have hneq : ((Ty.S (Cl.pv c.k M)).toList == (Ty.S r9).toList) = false := by
        rw [beq_eq_false_iff_ne, ByteArray.toList_eq, ByteArray.toList_eq]
        exact hpv
       generalize Ty.S (Cl.pv c.k M) = S5 at CWP hneq
       clear hpv
       go_wp2_with fail
       with_reducible refine CWP.mono ?_
       rintro e w7 ⟨rfl, g7⟩
       have HB7 := Lib.hid (HB5.out.trans (g7.mono HB5.out.size))
       clear CWP g7
       go_wp2
       go_ret2
       exact Bk.GotF.bad HE.out rfl HB7.out
     ·have HE := Lib.hid (Gc'.out hcn)
      have hcb : ((M.length : Int) != (Cl.cnt F n : Int)) = true := by rw [bne_iff_ne]; omega
      clear hcn
      go_wp2
      go_ret2
      exact Bk.GotF.bad HE.out rfl HB5.out
    ·have HE := Lib.hid (Ge.out hE9)
     have hEb : ((E9 : Int) != 0) = true := by rw [bne_iff_ne]; omega
     clear hE9 GI GF Ge Gc Gn Gq
     go_wp2
     go_ret2
     exact Bk.GotF.bad HE.out rfl HB5.out
  ·have HE := Lib.hid (F1.out hQ)
   have hQb : ((Q : Int) != 0) = true := by rw [bne_iff_ne]; omega
   clear hQ hN
   go_wp2
   go_ret2
   exact Bk.GotF.bad HE.out rfl HB3.out
end
section
open Go
open Ty (num txt encU U64 I64)
open Ig (rest)
theorem Bk.rd_k {s : List Kn.C} {l : List UInt8} (h : Kn.right s = false) : Bk.rd s l = (4, []) := by unfold Bk.rd; rw [if_pos h]
theorem Bk.rd_h {s : List Kn.C} {l : List UInt8} (h : Kn.right s = true) (h1 : (num l).2.2 ≠ 0) : Bk.rd s l = (8, []) := by unfold Bk.rd; rw [if_neg (by rw [h]; decide), if_pos h1]
theorem Bk.rd_e {s : List Kn.C} {l : List UInt8} (h : Kn.right s = true) (h1 : (num l).2.2 = 0) (h2 : rest l = []) : Bk.rd s l = (8, []) := by
 unfold Bk.rd; rw [if_neg (by rw [h]; decide), if_neg (by rw [h1]; simp), h2]
theorem Bk.rd_b {s : List Kn.C} {l : List UInt8} (h : Kn.right s = true) (h1 : (num l).2.2 = 0) {b : UInt8} {r : List UInt8} (h2 : rest l = b :: r) (h3 : (num l).1 < 1 ∨ 8 < (num l).1 ∨ b.toNat / 2 ^ (num l).1 ≠ 0) : Bk.rd s l = (8, []) := by
 unfold Bk.rd; rw [if_neg (by rw [h]; decide), if_neg (by rw [h1]; simp), h2]
 dsimp only
 rw [if_pos h3]
def Bk.rdE (s : List Kn.C) (n : Nat) (b : UInt8) (r : List UInt8) : Nat × List Dd.D :=
 match Bk.rdC 0 s (Bk.none_ n b) r with
 | none => (8, [])
 | some (L, r') => if r' = [] ∧ Bk.sorted L = true then (0, L) else (8, [])
theorem Bk.rd_g {s : List Kn.C} {l : List UInt8} (h : Kn.right s = true) (h1 : (num l).2.2 = 0) {b : UInt8} {r : List UInt8} (h2 : rest l = b :: r) (h3 : ¬ ((num l).1 < 1 ∨ 8 < (num l).1 ∨ b.toNat / 2 ^ (num l).1 ≠ 0)) : Bk.rd s l = Bk.rdE s (num l).1 b r := by
 unfold Bk.rd Bk.rdE; rw [if_neg (by rw [h]; decide), if_neg (by rw [h1]; simp), h2]
 dsimp only
 rw [if_neg h3]
 generalize Bk.rdC 0 s (Bk.none_ (num l).1 b) r = o
 cases o <;> rfl
def Bk.lv (L : List Dd.D) : Nat := (L.filter fun d => !d.gone).length
theorem Bk.dist_size (i : Nat) : ∀ (L : List Dd.D) (vs : List Kn.V), (Bk.dist i L vs).length = L.length
 | [], _ => rfl
 | d :: r, vs => by
   unfold Bk.dist
   split
   ·rw [List.length_cons, List.length_cons, Bk.dist_size i r]
   ·rw [List.length_cons, List.length_cons, Bk.dist_size i r]
theorem Bk.dist_lv (i : Nat) : ∀ (L : List Dd.D) (vs : List Kn.V), Bk.lv (Bk.dist i L vs) = Bk.lv L
 | [], _ => rfl
 | d :: r, vs => by
   have h1 := Bk.dist_lv i r vs.tail
   have h2 := Bk.dist_lv i r vs
   unfold Bk.lv at h1 h2 ⊢
   unfold Bk.dist
   split
   ·cases hg : d.gone <;> simp [hg, h1]
   ·cases hg : d.gone <;> simp [hg, h2]
def Bk.MidC (s : List Kn.C) (A0 : List Dd.D) (r : List UInt8) (k : Nat) (A : List Dd.D) (l2 : List UInt8) : Prop :=
 k ≤ s.length ∧ A.length = A0.length ∧ Bk.lv A = Bk.lv A0 ∧ Bk.rdC 0 s A0 r = Bk.rdC k (s.drop k) A l2
def Bk.okC (c : Kn.C) (k : Nat) (A : List Dd.D) (l : List UInt8) : Prop := (txt l Bk.most).2.2 = 0 ∧ (Cl.rd c (txt l Bk.most).1).1 = 0 ∧ (Cl.rd c (txt l Bk.most).1).2.length = (A.filter (Bk.has k)).length
theorem Bk.MidC.fail {s : List Kn.C} {A0 A : List Dd.D} {r l2 : List UInt8} {k : Nat} (h : Bk.MidC s A0 r k A l2) {c : Kn.C} (hc : s[k]? = some c) (hn : ¬ Bk.okC c k A l2) : Bk.rdC 0 s A0 r = none := by
 obtain ⟨_, _, _, h4⟩ := h
 obtain ⟨h1, rfl⟩ := List.getElem?_eq_some_iff.1 hc
 rw [h4, List.drop_eq_getElem_cons h1]
 unfold Bk.rdC
 exact if_neg hn
theorem Bk.MidC.next {s : List Kn.C} {A0 A : List Dd.D} {r l2 : List UInt8} {k : Nat} (h : Bk.MidC s A0 r k A l2) {c : Kn.C} (hc : s[k]? = some c) (hn : Bk.okC c k A l2) : Bk.MidC s A0 r (k + 1) (Bk.dist k A (Cl.rd c (txt l2 Bk.most).1).2) (Bk.restM l2) := by
 obtain ⟨_, a2, a3, h4⟩ := h
 obtain ⟨h1, rfl⟩ := List.getElem?_eq_some_iff.1 hc
 refine ⟨h1, by rw [Bk.dist_size]; exact a2, by rw [Bk.dist_lv]; exact a3, ?_⟩
 rw [h4, List.drop_eq_getElem_cons h1]
 conv => lhs; unfold Bk.rdC
 exact if_pos hn
theorem Bk.MidC.done {s : List Kn.C} {A0 A : List Dd.D} {r l2 : List UInt8} {k : Nat} (h : Bk.MidC s A0 r k A l2) (hk : k = s.length) : Bk.rdC 0 s A0 r = some (A, l2) := by
 obtain ⟨_, _, _, h4⟩ := h
 rw [h4, hk, List.drop_length]
 rfl
theorem Bk.rdE_fail {s : List Kn.C} {n : Nat} {b : UInt8} {r : List UInt8} (h : Bk.rdC 0 s (Bk.none_ n b) r = none) : Bk.rdE s n b r = (8, []) := by unfold Bk.rdE; rw [h]
theorem Bk.rdE_bad {s : List Kn.C} {n : Nat} {b : UInt8} {r l2 : List UInt8} {A : List Dd.D} (h : Bk.rdC 0 s (Bk.none_ n b) r = some (A, l2)) (h2 : ¬ (l2 = [] ∧ Bk.sorted A = true)) : Bk.rdE s n b r = (8, []) := by
 unfold Bk.rdE; rw [h]
 exact if_neg h2
theorem Bk.rdE_good {s : List Kn.C} {n : Nat} {b : UInt8} {r l2 : List UInt8} {A : List Dd.D} (h : Bk.rdC 0 s (Bk.none_ n b) r = some (A, l2)) (h2 : l2 = []) (h3 : Bk.sorted A = true) : Bk.rdE s n b r = (0, A) := by
 unfold Bk.rdE; rw [h]
 exact if_pos ⟨h2, h3⟩
def Bk.MidD (i : Nat) (A : List Dd.D) (vs : List Kn.V) (B : List Dd.D) (j at_ : Nat) : Prop :=
 B.length = A.length ∧ j ≤ A.length ∧ B.drop j = A.drop j ∧ at_ + ((A.drop j).filter (Bk.has i)).length = vs.length ∧ Bk.dist i A vs = B.take j ++ Bk.dist i (A.drop j) (vs.drop at_)
theorem Bk.MidD.at_ {i : Nat} {A B : List Dd.D} {vs : List Kn.V} {j at_ : Nat} (h : Bk.MidD i A vs B j at_) : B[j]? = A[j]? := by
 have := congrArg (fun l => l[0]?) h.2.2.1
 simpa using this
theorem Bk.MidD.skip {i : Nat} {A B : List Dd.D} {vs : List Kn.V} {j at_ : Nat} {d : Dd.D} (h : Bk.MidD i A vs B j at_) (hd : B[j]? = some d) (hh : Bk.has i d = false) : Bk.MidD i A vs B (j + 1) at_ := by
 have hb := h.at_
 obtain ⟨h1, h2, h3, h4, h5⟩ := h
 obtain ⟨hj, rfl⟩ := List.getElem?_eq_some_iff.1 hd
 have hjA : j < A.length := by omega
 rw [hd, List.getElem?_eq_getElem hjA, Option.some.injEq] at hb
 have hdr : A.drop j = B[j] :: A.drop (j + 1) := by rw [List.drop_eq_getElem_cons hjA, hb]
 refine ⟨h1, hjA, ?_, ?_, ?_⟩
 ·have := congrArg List.tail h3
  simpa using this
 ·rw [hdr, List.filter_cons, hh, if_neg (by decide)] at h4
  exact h4
 ·rw [h5, hdr, List.take_succ_eq_append_getElem hj, List.append_assoc]
  conv => lhs; rw [Bk.dist, hh, if_neg (by decide)]
  rfl
theorem Bk.MidD.done {i : Nat} {A B : List Dd.D} {vs : List Kn.V} {j at_ : Nat} (h : Bk.MidD i A vs B j at_) (hj : j = A.length) : Bk.dist i A vs = B := by
 obtain ⟨h1, _, _, _, h5⟩ := h
 rw [h5, hj, List.drop_length, ← h1, List.take_length]
 simp [Bk.dist]
def Bk.mk (n : Nat) (b : UInt8) (j : Nat) : List Dd.D := (List.range n).map fun i => if i < j then ⟨b.toNat.testBit i, []⟩ else Bk.nod
end
end Go.Proofs.YtbelkhkllneifaaGreatDoor
