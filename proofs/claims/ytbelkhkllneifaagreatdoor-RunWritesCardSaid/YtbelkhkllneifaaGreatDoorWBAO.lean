/-
  
  
  
  
  
  
  
  
  
  
  
  
  
-/
import Derived.Test.YtbelkhkllneifaaGreatDoorWBAN
import Derived.LoopTactic
import Derived.Test.YtbelkhkllneifaaGreatDoorWBAH
import Derived.Test.YtbelkhkllneifaaGreatDoorWBAL
import Derived.Deep.Onto
import Derived.Deep.RegionHeld3
import Derived.Deep.OwnRows
namespace Go.Proofs.YtbelkhkllneifaaGreatDoor
open Go.RowKit
open Ig (nth encI encR grp low off diffs prv)
open Ty (encU num)
theorem Ig.diff_wrap {x y : Int} : wrap64 (IntKind.u64.wrap (IntKind.u64.wrap x - IntKind.u64.wrap y)) = wrap64 (x - y) := by
 simp only [IntKind.wrap_u64]
 unfold wrap64
 omega
theorem Ig.len_encP {L : List Int} (hi : ∀ x ∈ L, Ty.I64 x) (hl : L.length ≤ 65536) : (Ig.encP L).length ≤ 524298 := by
 unfold Ig.encP
 split
 ·simp
 ·have h1 := Ig.len_encI (low L)
  have hq : Bt.wid L.length (off L) ≤ 64 := Bt.wid_64 (Ig.off_lt L hi)
  have h2 := Bt.mul_le L.length (Bt.wid L.length (off L)) hq
  rw [List.length_append, List.length_cons, Ig.len_bytes]
  unfold Bt.need
  omega
set_option maxHeartbeats 1000000 in
set_option maxRecDepth 100000 in
theorem Ig.rwith_good (u : Value) (L : List Int) (k : Nat) (hk : k ≤ 3) (w : World) (hL : Ig.At w.heap.size w u L) (hi : ∀ x ∈ L, Ty.I64 x) (hl : L.length ≤ 65536) :
 Calls Tryz.prog 147 #[u, .int .i64 k] w fun e w' => e = .returned (.tuple #[.string (Ty.S (Ig.enc k L)), .int .i64 0]) ∧ Below w.heap.size w w' := by
 have HE : Hid (Ig.enc k L = UInt8.ofNat k :: encU L.length ++ Ig.body k L) := Lib.hid (by unfold Ig.enc; simp)
 have HL := Lib.hid hL
 have HI := Lib.hid hi
 have hn2 : ¬ (65536 : Int) < (L.length : Int) := by omega
 have hn6 : (L.length : Int) ≤ 65536 := by omega
 have hn0 : (0 : Int) ≤ (L.length : Int) := by omega
 obtain ⟨a, c, rfl, hc, _, h⟩ := hL
 have HC := Lib.hid h
 have hk0 : (0 : Int) ≤ (k : Int) := by omega
 have hk3 : (k : Int) ≤ 3 := by omega
 obtain ⟨A, hA⟩ : ∃ A, A = Ty.S (encU L.length) := ⟨_, rfl⟩
 have hA9 : A.size ≤ 9 := by rw [hA]; exact Ty.encU_len9 _
 obtain ⟨B, hB⟩ : ∃ B, B = Ty.S [UInt8.ofNat k] := ⟨_, rfl⟩
 have hB9 : B.size ≤ 1 := by rw [hB]; exact Nat.le_refl _
 have n1 : ¬ 9223372036854775807 < B.size + A.size := by omega
 have hwn : IntKind.u64.wrap (L.length : Int) = (L.length : Int) := by rw [IntKind.wrap_u64]; omega
 have CU : Hid (∀ wz, Calls Tryz.prog 40 #[.int .u64 (L.length : Int)] wz fun e w' => e = .returned (.string A) ∧ Below wz.heap.size wz w') := Lib.hid fun wz => by rw [hA]; exact Ty.ruint_nat L.length wz
 have CV : Hid (∀ wz, Calls Tryz.prog 40 #[.int .u64 (IntKind.u64.wrap (L.length : Int))] wz fun e w' => e = .returned (.string A) ∧ Below wz.heap.size wz w') := Lib.hid fun wz => by rw [hwn]; exact CU.out wz
 have one1 := Ig.one_str k (by omega)
 have ONE2 := Lib.hid (Ig.one_str3 k (by omega))
 have ONE4 := Lib.hid (Ig.one_str4 k (by omega))
 have one5 := Ig.one_str5 k (by omega)
 rw [← hB] at one1 ONE2 ONE4 one5
 have ONE1 := Lib.hid one1
 have ONE5 := Lib.hid one5
 have HD : Hid (B ++ A = Ty.S (UInt8.ofNat k :: encU L.length)) := Lib.hid (by rw [hA, hB, Ig.S_add]; rfl)
 have h9 := Ty.encU_len9 L.length
 obtain ⟨D, hD⟩ : ∃ D, D = UInt8.ofNat k :: encU L.length := ⟨_, rfl⟩
 have hDl : D.length ≤ 10 := by rw [hD, List.length_cons]; omega
 rw [HE.out, ← hD]
 rw [← hD] at HD
 clear h hi one1 one5 hwn hA hB hD h9 HE
 go_enter Tryz.func147, Tryz.ntmps147
 go_upto_region 5 with fail
 go_cut [6] (fun s6 wx => s6 = .string (Ty.S D) ∧ Below w.heap.size w wx)
 case first =>
  have hw8 : IntKind.u8.wrap (k : Int) = (k : Int) := by rw [IntKind.wrap_u8]; omega
  have one1 := ONE1.out
  have one5 := ONE5.out
  go_region_with (first
   | (go_at_call 40; (with_reducible refine (CU.out _).mono ?_); rintro e wz ⟨rfl, gz⟩; have hcv := ONE2.out _ _ gz)
   | (go_at_call 40; (with_reducible refine (CU.out _).mono ?_); rintro e wz ⟨rfl, gz⟩; have hcv := ONE4.out _ _ gz)
   | (go_at_call 40; (with_reducible refine (CU.out _).mono ?_); rintro e wz ⟨rfl, gz⟩)
   | (go_at_call 40; (with_reducible refine (CV.out _).mono ?_); rintro e wz ⟨rfl, gz⟩; have hcv := ONE2.out _ _ gz)
   | (go_at_call 40; (with_reducible refine (CV.out _).mono ?_); rintro e wz ⟨rfl, gz⟩; have hcv := ONE4.out _ _ gz)
   | (go_at_call 40; (with_reducible refine (CV.out _).mono ?_); rintro e wz ⟨rfl, gz⟩))
  all_goals
   try clear hcv
   clear one1 one5 hw8
   first
    | have hbe : Below w.heap.size w wz := ((Below.refl _ w).drew.trans gz)
    | have hbe : Below w.heap.size w wz := (((Below.refl _ w).alloc (Nat.le_refl _) _).drew.trans (gz.mono (by simp)))
    | have hbe : Below w.heap.size w wz := (((Below.refl _ w).drew.alloc (Nat.le_refl _) _).trans (gz.mono (by simp)))
   go_wp2_with fail
   go_meet
   first
    | exact ⟨by rw [← HD.out], hbe⟩
    | exact ⟨by rw [← HD.out], hbe.alloc hbe.size _⟩
 case rest =>
  obtain ⟨rfl, hb⟩ := hcut
  have HB := Lib.hid hb
  have hat := HL.out.below hb
  have hbs := hb.size
  clear hb
  obtain ⟨S0, hS0⟩ : ∃ S0, S0 = Ty.S D := ⟨_, rfl⟩
  have hS9 : S0.size ≤ 10 := by rw [hS0]; exact hDl
  rcases (by omega : k = 2 ∨ k = 3 ∨ k < 2) with hkk | hkk | hkk
  ·have k2 : ((k : Int) == 2) = true := by rw [beq_iff_eq]; omega
   have hR := Ig.rruns_c _ L _ hat.bufs HI.out hl
   have hbd : Ig.body k L = (grp L).flatMap encR := by rw [hkk]; rfl
   obtain ⟨R, hRR⟩ : ∃ R, R = Ty.S ((grp L).flatMap encR) := ⟨_, rfl⟩
   have hR9 : R.size ≤ 1179648 := by rw [hRR, Ty.size_S]; have := Ig.len_runs L; omega
   have HF : Hid (S0 ++ R = Ty.S (D ++ Ig.body k L)) := Lib.hid (by rw [hS0, hRR, Ig.S_add, hbd])
   unfold Ty.Str at hR
   rw [← hRR] at hR
   rw [← hS0]
   clear hat hkk hbd hRR hS0
   go_wp2_with fail
   refine hR.mono ?_
   rintro e w2 ⟨rfl, g2⟩
   have HB2 := Lib.hid (HB.out.trans (g2.mono hbs))
   clear hR g2
   go_wp2
   go_ret2
   exact ⟨by rw [← HF.out]; rfl, HB2.out⟩
  ·have k2 : ((k : Int) == 2) = false := by rw [beq_eq_false_iff_ne]; omega
   have k3 : ((k : Int) == 3) = true := by rw [beq_iff_eq]; omega
   have hR := Ig.rpacked_c _ L _ hat.bufs HI.out hl
   have hbd : Ig.body k L = Ig.encP L := by rw [hkk]; rfl
   obtain ⟨R, hRR⟩ : ∃ R, R = Ty.S (Ig.encP L) := ⟨_, rfl⟩
   have hR9 : R.size ≤ 524298 := by rw [hRR, Ty.size_S]; exact Ig.len_encP HI.out hl
   have HF : Hid (S0 ++ R = Ty.S (D ++ Ig.body k L)) := Lib.hid (by rw [hS0, hRR, Ig.S_add, hbd])
   unfold Ty.Str at hR
   rw [← hRR] at hR
   rw [← hS0]
   clear hat hkk hbd hRR hS0
   go_wp2_with fail
   refine hR.mono ?_
   rintro e w2 ⟨rfl, g2⟩
   have HB2 := Lib.hid (HB.out.trans (g2.mono hbs))
   clear hR g2
   go_wp2
   go_ret2
   exact ⟨by rw [← HF.out]; rfl, HB2.out⟩
  ·have k2 : ((k : Int) == 2) = false := by rw [beq_eq_false_iff_ne]; omega
   have k3 : ((k : Int) == 3) = false := by rw [beq_eq_false_iff_ne]; omega
   obtain ⟨E, hE⟩ : ∃ E, E = if k = 0 then L else diffs 0 L := ⟨_, rfl⟩
   have hEl : E.length = L.length := by rw [hE]; split; rfl; exact Ig.diffs_len L 0
   have HBD : Hid (Ig.body k L = E.flatMap Ig.encI) := Lib.hid (by
    rw [hE]
    rcases (by omega : k = 0 ∨ k = 1) with e | e
    ·subst e; rfl
    ·subst e; rfl)
   have HEI : Hid (∀ j, j < L.length → nth E j = if k = 0 then nth L j else wrap64 (nth L j - prv L j)) := Lib.hid (fun j hj => by
    rw [hE]
    split
    ·rfl
    ·exact Ig.diffs_at hj)
   have HEL := Lib.hid hEl
   clear hE hEl hat hS9 hS0
   go_wp2_with fail
   go_loopw [6, 7] (fun s i wr => ∃ j : Nat, j ≤ L.length ∧ i = .int .i64 j ∧ s = .string (Ty.S (D ++ (E.take j).flatMap Ig.encI)) ∧ Below w.heap.size w wr) (fun _ i _ => L.length - (intOf i).toNat)
   case atStart => exact ⟨0, by omega, rfl, by simp, HB.out⟩
   case round =>
    obtain ⟨j, hj, rfl, rfl, hb2⟩ := hrel
    have HB2 := Lib.hid hb2
    have hbs2 := hb2.size
    clear hb2
    by_cases hjl : j < L.length
    ·rcases HC.out with h | ⟨b, o, rfl, hlt, h⟩
     ·exact absurd hjl (by rw [h]; simp)
     have hc1 := (HB2.out.cell (p := ⟨b, o + j, none⟩) hlt).trans (h j hjl)
     have hji : (j : Int) < (L.length : Int) := by omega
     have hj0 : (0 : Int) ≤ (j : Int) := by omega
     have hEj := HEI.out j hjl
     have HN : Hid ((E.take (j + 1)).flatMap Ig.encI = (E.take j).flatMap Ig.encI ++ Ig.encI (nth E j)) := Lib.hid (Ig.flat_next (by rw [HEL.out]; exact hjl))
     have hx := Ig.nth_i64 HI.out hjl
     have hln := Ig.len_flat_take E j
     obtain ⟨T, hT⟩ : ∃ T, T = Ty.S (D ++ (E.take j).flatMap Ig.encI) := ⟨_, rfl⟩
     have hT9 : T.size ≤ 600000 := by rw [hT, Ty.size_S, List.length_append]; omega
     obtain ⟨Z, hZ⟩ : ∃ Z, Z = Ty.S (Ty.encU (Ty.zig (nth E j)).toNat) := ⟨_, rfl⟩
     have hZ9 : Z.size ≤ 9 := by rw [hZ]; exact Ty.encU_len9 _
     have HF : Hid (T ++ Z = Ty.S (D ++ (E.take (j + 1)).flatMap Ig.encI)) := Lib.hid (by
      rw [hT, hZ, Ig.S_add, HN.out]
      simp [Ig.encI, Ig.encI])
     have cI : Ty.I64 (nth E j) → ∀ wz, Calls Tryz.prog 159 #[.int .i64 (nth E j)] wz fun e w' => e = .returned (.string Z) ∧ Below wz.heap.size wz w' := fun hx wz => by rw [hZ]; exact Ty.rint_c _ wz hx
     rw [← hT]
     have HIX := Lib.hid (⟨h, hlt⟩ : (∀ i, i < L.length → w.cell? ⟨b, o + i, none⟩ = some (.int .i64 (nth L i))) ∧ b < w.heap.size)
     clear h hln hT hZ
     rcases (by omega : k = 0 ∨ (k = 1 ∧ j = 0) ∨ (k = 1 ∧ 0 < j)) with e | ⟨e, e2⟩ | ⟨e, e2⟩
     ·rw [if_pos e] at hEj
      rw [hEj] at cI
      have ci := cI hx
      have k1 : ((k : Int) == 1) = false := by rw [beq_eq_false_iff_ne]; omega
      generalize nth L j = x at hc1 ci
      clear e hEj cI hx
      go_wp2_with fail
      refine (ci _).mono ?_
      rintro e w3 ⟨rfl, g3⟩
      have HB3 := Lib.hid (HB2.out.trans (g3.mono hbs2))
      clear ci g3
      go_wp2
      go_roundw
      case rel => exact ⟨j + 1, by omega, by simp, by rw [← HF.out], HB3.out⟩
      case measure => simp [intOf]; omega
     ·rw [if_neg (by omega), e2] at hEj
      have hEj2 : nth E j = nth L j := by
       rw [e2] at hx ⊢
       rw [hEj, show prv L 0 = 0 from rfl]
       unfold Ty.I64 at hx
       unfold wrap64
       omega
      rw [hEj2] at cI
      have ci := cI hx
      have k1 : ((k : Int) == 1) = true := by rw [beq_iff_eq]; omega
      have hjz : ¬ (0 : Int) < (j : Int) := by omega
      generalize nth L j = x at hc1 ci
      clear e e2 hEj hEj2 cI hx
      go_wp2_with fail
      refine (ci _).mono ?_
      rintro e w3 ⟨rfl, g3⟩
      have HB3 := Lib.hid (HB2.out.trans (g3.mono hbs2))
      clear ci g3
      go_wp2
      go_roundw
      case rel => exact ⟨j + 1, by omega, by simp, by rw [← HF.out], HB3.out⟩
      case measure => simp [intOf]; omega
     ·rw [if_neg (by omega)] at hEj
      have k1 : ((k : Int) == 1) = true := by rw [beq_iff_eq]; omega
      have hjz : (0 : Int) < (j : Int) := by omega
      have hjo : (1 : Int) ≤ (j : Int) := by omega
      have hp : prv L j = nth L (j - 1) := by
       obtain ⟨q, rfl⟩ : ∃ q, j = q + 1 := ⟨j - 1, by omega⟩
       rfl
      have hc2 := (HB2.out.cell (p := ⟨b, o + (j - 1), none⟩) hlt).trans (HIX.out.1 (j - 1) (by omega))
      rw [hEj, hp] at cI
      have ci := cI (Ig.wrap_i64 _)
      have hsub : IntKind.i64.wrap ((j : Int) - 1) = (j : Int) - 1 := by rw [IntKind.wrap_i64]; omega
      have htn : ((j : Int) - 1).toNat = j - 1 := by omega
      have hs1 : (0 : Int) ≤ (j : Int) - 1 := by omega
      have hs2 : (j : Int) - 1 < (L.length : Int) := by omega
      generalize nth L j = x at hc1 ci
      generalize nth L (j - 1) = y at hc2 ci
      rw [← Ig.diff_wrap] at ci
      clear e e2 hEj hp cI hx
      go_wp2_with fail
      go_quiet (fail)
      clear hsub htn
      have hbq : Below w.heap.size w (wr.drewN nq) := HB2.out.trans ((Bt.drewN_below _ _).mono HB2.out.size)
      have hbqs := hbq.size
      go_wp2_with fail
      refine (ci _).mono ?_
      rintro e w3 ⟨rfl, g3⟩
      have HB3 := Lib.hid (hbq.trans (g3.mono hbqs))
      clear ci g3 hbq
      go_wp2
      go_roundw
      case rel => exact ⟨j + 1, by omega, by simp, by rw [← HF.out], HB3.out⟩
      case measure => simp [intOf]; omega
    ·obtain rfl : j = L.length := by omega
     have hji : ¬ (L.length : Int) < (L.length : Int) := by omega
     go_wp2
     go_ret2
     exact ⟨by have := HEL.out; rw [← this, List.take_length, HBD.out]; rfl, HB2.out⟩
set_option maxHeartbeats 1000000 in
theorem Ig.rwith_c (u : Value) (L : List Int) (z : Int) (w : World) (hL : Ig.At w.heap.size w u L) (hi : ∀ x ∈ L, Ty.I64 x) (hl : L.length ≤ 140737488355328) :
 Calls Tryz.prog 147 #[u, .int .i64 z] w fun e w' => e = .returned (Ig.withV L z) ∧ Below w.heap.size w w' := by
 by_cases hz : 0 ≤ z ∧ z ≤ 3
 ·by_cases hln : 65536 < L.length
  ·rw [Ig.withV_long hz hln]
   obtain ⟨h1, h2⟩ := hz
   have hli : (65536 : Int) < (L.length : Int) := by omega
   obtain ⟨a, c, rfl, hc, _, h⟩ := hL
   clear h hi hln
   go_enter Tryz.func147, Tryz.ntmps147
   go_wp2
   go_ret2
   exact ⟨rfl, Below.refl _ _⟩
  ·obtain ⟨k, rfl⟩ := Int.eq_ofNat_of_zero_le hz.1
   rw [Ig.withV_good (by omega) hln]
   exact Ig.rwith_good u L k (by omega) w hL hi (by omega)
 ·rw [Ig.withV_bad hz]
  obtain ⟨a, c, rfl, hc, _, h⟩ := hL
  clear h hi
  by_cases h0 : z < 0
  ·go_enter Tryz.func147, Tryz.ntmps147
   go_wp2
   go_ret2
   exact ⟨rfl, Below.refl _ _⟩
  ·have h4 : (3 : Int) < z := by omega
   clear hz
   go_enter Tryz.func147, Tryz.ntmps147
   go_wp2
   go_ret2
   exact ⟨rfl, Below.refl _ _⟩
set_option maxHeartbeats 2000000 in
theorem Ig.rbest_c (u : Value) (L : List Int) (w : World) (hL : Ig.At w.heap.size w u L) (hi : ∀ x ∈ L, Ty.I64 x) (hl : L.length ≤ 140737488355328) :
 Calls Tryz.prog 133 #[u] w fun e w' => e = .returned (Ig.bestV L) ∧ Below w.heap.size w w' := by
 by_cases hln : 65536 < L.length
 ·have c0 := Ig.rwith_c u L 0 w hL hi hl
  rw [Ig.withV_long (by omega) hln] at c0
  rw [Ig.bestV_long hln]
  clear hln hi hl
  obtain ⟨a, c, rfl, hc, _, h⟩ := hL
  clear h
  go_enter Tryz.func133, Tryz.ntmps133
  go_wp2_with fail
  refine c0.mono ?_
  rintro e w1 ⟨rfl, hb1⟩
  go_wp2
  refine wp_loop_rounds 1 ?_; rw [rounds_succ]
  go_wp2
  go_ret2
  exact ⟨rfl, hb1⟩
 ·rw [Ig.bestV_good hln]
  have cw : Hid (∀ k : Nat, k ≤ 3 → ∀ wz, Below w.heap.size w wz → Calls Tryz.prog 147 #[u, .int .i64 (k : Int)] wz fun e w' => e = .returned (.tuple #[.string (Ty.S (Ig.enc k L)), .int .i64 0]) ∧ Below w.heap.size w w') := Lib.hid fun k hk wz hb => by
   have := Ig.rwith_c u L (k : Int) wz (hL.below hb).bufs hi hl
   rw [Ig.withV_good hk hln] at this
   exact this.mono fun e w' ⟨he, hg⟩ => ⟨he, hb.trans (hg.mono hb.size)⟩
  have c0 := cw.out 0 (by decide) w (Below.refl _ _)
  obtain ⟨a, c, rfl, hc, _, h⟩ := hL
  clear h hi hl hln
  have e0 : ((0 : Nat) : Int) = 0 := rfl
  rw [e0] at c0
  clear e0
  go_enter Tryz.func133, Tryz.ntmps133
  go_wp2_with fail
  refine c0.mono ?_
  rintro e w1 ⟨rfl, hb1⟩
  clear c0
  go_wp2
  go_loopw [4, 6] (fun s i wr => ∃ k : Nat, 1 ≤ k ∧ k ≤ 4 ∧ i = .int .i64 k ∧ s = .string (Ty.S (Ig.enc (Ig.bk L (k - 1)) L)) ∧ Below w.heap.size w wr) (fun _ i _ => 4 - (intOf i).toNat)
  case atStart => exact ⟨1, by omega, by omega, rfl, rfl, hb1⟩
  case round =>
   obtain ⟨k, hk1, hk, rfl, rfl, hb⟩ := hrel
   clear hb1
   have hs := hb.size
   by_cases hk4 : k < 4
   ·have hki : (k : Int) < 4 := by omega
    have hk0 : (0 : Int) ≤ (k : Int) := by omega
    have HBK : Hid (Ig.bk L k = if (Ig.enc k L).length < (Ig.enc (Ig.bk L (k - 1)) L).length then k else Ig.bk L (k - 1)) := Lib.hid (by
     obtain ⟨j, rfl⟩ : ∃ j, k = j + 1 := ⟨k - 1, by omega⟩
     rfl)
    obtain ⟨s0, es0⟩ : ∃ s0, s0 = Ty.S (Ig.enc (Ig.bk L (k - 1)) L) := ⟨_, rfl⟩
    obtain ⟨s1, es1⟩ : ∃ s1, s1 = Ty.S (Ig.enc k L) := ⟨_, rfl⟩
    have HN : Hid (s1.size < s0.size → Ty.S (Ig.enc (Ig.bk L k) L) = s1) := Lib.hid (fun h => by
     rw [es0, es1, Ty.size_S, Ty.size_S] at h
     rw [es1, HBK.out, if_pos h])
    have HM : Hid (¬ s1.size < s0.size → Ty.S (Ig.enc (Ig.bk L k) L) = s0) := Lib.hid (fun h => by
     rw [es0, es1, Ty.size_S, Ty.size_S] at h
     rw [es0, HBK.out, if_neg h])
    have c1 := cw.out k (by omega)
    rw [← es1] at c1
    rw [← es0]
    have c2 := c1 _ hb
    clear c1 es0 es1 hb
    by_cases hlt : (s1.size : Int) < (s0.size : Int)
    all_goals
     go_wp2_with fail
     refine c2.mono ?_
     rintro e w3 ⟨rfl, hb3⟩
     clear c2
     go_wp2
     go_roundw
     case rel => exact ⟨k + 1, by omega, by omega, by simp, by first | rw [show k + 1 - 1 = k by omega, HN.out (by omega)] | rw [show k + 1 - 1 = k by omega, HM.out (by omega)], hb3⟩
     case measure => simp [intOf]; omega
   ·obtain rfl : k = 4 := by omega
    go_wp2
    go_ret2
    exact ⟨rfl, hb⟩
end Go.Proofs.YtbelkhkllneifaaGreatDoor

namespace Go.Proofs.YtbelkhkllneifaaGreatDoor
open Go.RowKit
open Ty (encU num txt)
open Tx (restT rdWords)
theorem Tx.buf_ne {e : TypeId} {base : Nat} {w : World} {v : Value} {n : Nat} {f : Nat → Value} (h : Bt.Buf e base w v n f) {b : Nat} (hb : b < base) : v.ownBlock ≠ some b := fun e => by have := h.base_le b e; omega
theorem Tx.buf_by {e : TypeId} {base b : Nat} {w w' : World} {v : Value} {n : Nat} {f : Nat → Value} (h : Bt.Buf e base w v n f) (hg : w.grownBy w' (some b)) (hb : b < base) : Bt.Buf e base w' v n f :=
 World.ownsRow.kept h hg (.inr (Tx.buf_ne h hb))
theorem Tx.Own.by {base b : Nat} {w w' : World} {v : Value} {L : List Tx.Str} (h : Tx.Own base w v L) (hg : w.grownBy w' (some b)) (hb : b < base) : Tx.Own base w' v L := Tx.buf_by h hg hb
def Tx.MidW (ord : Bool) (n : Nat) (l : List UInt8) (M : List Tx.Str) (l2 : List UInt8) : Prop := M.length ≤ n ∧ rdWords ord n none l = ((rdWords ord (n - M.length) M.getLast? l2).1, M ++ (rdWords ord (n - M.length) M.getLast? l2).2.1, (rdWords ord (n - M.length) M.getLast? l2).2.2)
theorem Tx.MidW.start (ord : Bool) (n : Nat) (l : List UInt8) : Tx.MidW ord n l [] l := ⟨by simp, by simp⟩
theorem Tx.MidW.fail {ord : Bool} {n : Nat} {l : List UInt8} {M : List Tx.Str} {l2 : List UInt8} (h : Tx.MidW ord n l M l2) (hk : M.length < n) (h0 : (txt l2 64).2.2 ≠ 0) : (rdWords ord n none l).1 = (txt l2 64).2.2 := by
 obtain ⟨h1, h2⟩ := h
 have e : n - M.length = (n - (M.length + 1)) + 1 := by omega
 rw [h2, e]
 simp only [rdWords]
 rw [if_pos h0]
theorem Tx.MidW.bad {n : Nat} {l : List UInt8} {M : List Tx.Str} {l2 : List UInt8} (h : Tx.MidW true n l M l2) (hk : M.length < n) (h0 : (txt l2 64).2.2 = 0) {q : Tx.Str} (hq : M.getLast? = some q) (hl : Tx.lt q (txt l2 64).1 = false) : (rdWords true n none l).1 = 4 := by
 obtain ⟨h1, h2⟩ := h
 have e : n - M.length = (n - (M.length + 1)) + 1 := by omega
 rw [h2, e]
 simp only [rdWords]
 rw [if_neg (by rw [h0]; simp), if_pos (by rw [hq]; simp [hl])]
theorem Tx.MidW.next {ord : Bool} {n : Nat} {l : List UInt8} {M : List Tx.Str} {l2 : List UInt8} (h : Tx.MidW ord n l M l2) (hk : M.length < n) (h0 : (txt l2 64).2.2 = 0) (hl : ord = true → ∀ q, M.getLast? = some q → Tx.lt q (txt l2 64).1 = true) : Tx.MidW ord n l (M ++ [(txt l2 64).1]) (restT l2) := by
 obtain ⟨h1, h2⟩ := h
 refine ⟨by simp; omega, ?_⟩
 have e : n - M.length = (n - (M.length + 1)) + 1 := by omega
 have hno : ¬ (ord = true ∧ (M.getLast?.any fun q => !Tx.lt q (txt l2 64).1) = true) := by
  rintro ⟨a, b⟩
  cases hm : M.getLast? with
  | none => rw [hm] at b; cases b
  | some q =>
    rw [hm] at b
    have := hl a q hm
    simp [this] at b
 rw [h2, e]
 simp only [rdWords]
 rw [if_neg (by rw [h0]; simp), if_neg hno]
 simp
theorem Tx.MidW.done {ord : Bool} {n : Nat} {l : List UInt8} {M : List Tx.Str} {l2 : List UInt8} (h : Tx.MidW ord n l M l2) (hk : ¬ M.length < n) : rdWords ord n none l = (0, M, l2) := by
 obtain ⟨h1, h2⟩ := h
 have e : n - M.length = 0 := by omega
 rw [h2, e]
 simp [rdWords]
theorem Tx.last_at {M : List Tx.Str} (h : 0 < M.length) : M.getLast? = some (M.getD (M.length - 1) []) := by
 rw [List.getLast?_eq_getElem?, List.getD, List.getElem?_eq_getElem (by omega)]
 rfl
end Go.Proofs.YtbelkhkllneifaaGreatDoor

namespace Go.Proofs.YtbelkhkllneifaaGreatDoor
open Go.RowKit
theorem Cl.boxed (w : World) (c : Kn.C) (v : Kn.V) (t t' : TypeId) {B : Nat} {w1 : World} (g : Below B ((w.alloc (.cells #[.int .i64 c.k, .bool c.null] t)).alloc (.cells #[.bool v.null, .int .i64 v.n, .string v.s] t')) w1) (hB : B = w.heap.size + 2) :
 w1.cell? ⟨w.heap.size, 1, none⟩ = some (.bool c.null) ∧ w1.cell? ⟨w.heap.size + 1, 0, none⟩ = some (.bool v.null) := by
 subst hB
 have h1 := ((Below.refl _ (w.alloc (.cells #[.int .i64 c.k, .bool c.null] t))).alloc (Nat.le_refl _) (.cells #[.bool v.null, .int .i64 v.n, .string v.s] t')).cell (p := ⟨w.heap.size, 1, none⟩) (by simp)
 rw [Kn.cell_new w _ t 1 _ rfl] at h1
 have h2 := Kn.cell_new (w.alloc (.cells #[.int .i64 c.k, .bool c.null] t)) #[.bool v.null, .int .i64 v.n, .string v.s] t' 0 _ rfl
 rw [World.size_alloc] at h2
 exact ⟨(g.cell (p := ⟨w.heap.size, 1, none⟩) (by simp)).trans h1, (g.cell (p := ⟨w.heap.size + 1, 0, none⟩) (by simp)).trans h2⟩
set_option maxRecDepth 100000 in
set_option maxHeartbeats 1000000 in
theorem Cl.ris_c (c : Kn.C) (v : Kn.V) (w : World) :
 Calls Tryz.prog 106 #[c.val, v.val] w fun e w' => e = .returned (.bool (Cl.is c v)) ∧ Below w.heap.size w w' := by
 have ci := Kn.rIs_c c.k v
 have hb := fun t t' B w1 g h => Cl.boxed w c v t t' (B := B) (w1 := w1) g h
 unfold Cl.is
 generalize Kn.isK c.k v = I at ci
 obtain ⟨ck, cn⟩ := c
 obtain ⟨vn, vi, vs⟩ := v
 unfold Kn.C.val
 unfold Kn.V.val at ci ⊢
 simp only at ci hb ⊢
 have HB := Lib.hid hb
 clear hb
 cases I <;> cases vn <;> cases cn
 all_goals
  go_enter Tryz.func106, Tryz.ntmps106
  go_wp2_with fail
  refine (ci _).mono ?_
  rintro e w1 ⟨rfl, g1⟩
  obtain ⟨b0, b1⟩ := HB.out _ _ _ _ g1 (by simp)
  have G1 := Lib.hid g1
  clear g1 ci
  go_wp2
  go_ret
  exact ⟨rfl, ((((Below.refl _ w).alloc (Nat.le_refl _) _).alloc (by simp) _).trans (G1.out.mono (by simp; omega)))⟩
theorem Cl.buf_grew {e e' : TypeId} (hne : e ≠ e') {base base' : Nat} {w w' : World} {v v' u : Value} {n m : Nat} {f g : Nat → Value} (h : Bt.Buf e base w v n f) (k : Bt.Buf e' base' w u m g) (hg : Ty.Grew w w' u v') : Bt.Buf e base w' v n f := by
 refine World.ownsRow.kept h hg.by_ ?_
 rcases h.2 with ⟨rfl, _⟩ | ⟨b, cap, cur, rfl, _, hb, _⟩
 ·exact .inl rfl
 ·refine .inr fun e1 => ?_
  rcases k.2 with ⟨rfl, _⟩ | ⟨b2, cap2, cur2, rfl, _, hb2, _⟩
  ·cases e1
  ·have e2 : b = b2 := by simpa [Value.ownBlock] using e1
   subst e2
   rw [hb] at hb2
   simp only [Option.some.injEq, Obj.cells.injEq] at hb2
   exact hne hb2.2.1
theorem Cl.grew_below {e : TypeId} {wo w w' : World} {v v' : Value} {n : Nat} {f : Nat → Value} (hb : Below wo.heap.size wo w) (ho : Bt.Buf e wo.heap.size w v n f) (g : Ty.Grew w w' v v') : Below wo.heap.size wo w' :=
 hb.trans (g.below hb.size (Bt.Buf.base_le ho))
theorem Cl.live_step (l : List Kn.V) (k : Nat) (x : Kn.V) (h : l[k]? = some x) : Cl.live (l.take (k + 1)) = Cl.live (l.take k) ++ (if x.null = true then [] else [x]) := by
 obtain ⟨h1, rfl⟩ := List.getElem?_eq_some_iff.1 h
 unfold Cl.live
 rw [List.take_succ_eq_append_getElem h1, List.filter_append]
 congr 1
 cases hn : l[k].null <;> simp [hn]
theorem Cl.nums_null {l : List Kn.V} {k : Nat} {x : Kn.V} (h : l[k]? = some x) (hn : x.null = true) : Cl.nums (l.take (k + 1)) = Cl.nums (l.take k) ∧ Cl.words (l.take (k + 1)) = Cl.words (l.take k) := by
 unfold Cl.nums Cl.words
 rw [Cl.live_step l k x h, if_pos hn, List.append_nil]
 exact ⟨rfl, rfl⟩
theorem Cl.nums_snoc {l : List Kn.V} {k : Nat} {x : Kn.V} (h : l[k]? = some x) (hn : x.null = false) : Cl.nums (l.take (k + 1)) = Cl.nums (l.take k) ++ [x.n] ∧ Cl.words (l.take (k + 1)) = Cl.words (l.take k) ++ [x.s.data.toList] := by
 unfold Cl.nums Cl.words
 rw [Cl.live_step l k x h, if_neg (by rw [hn]; decide), List.map_append, List.map_append]
 exact ⟨rfl, rfl⟩
theorem Cl.nums_take (l : List Kn.V) (k : Nat) : (Cl.nums (l.take k)).length ≤ k ∧ (Cl.words (l.take k)).length ≤ k :=
 ⟨Nat.le_trans (Cl.nums_len _) (List.length_take_le _ _), Nat.le_trans (Cl.words_len _) (List.length_take_le _ _)⟩
theorem Cl.nums_I64 {l : List Kn.V} (hi : ∀ v ∈ l, Ty.I64 v.n) : ∀ x ∈ Cl.nums l, Ty.I64 x := fun x hx => by
 obtain ⟨v, hv, rfl⟩ := List.mem_map.1 hx
 exact hi v (List.mem_filter.1 hv).1
set_option maxHeartbeats 2000000 in
set_option maxRecDepth 100000 in
theorem Cl.rvalues_c (c : Kn.C) (u : Value) (l : List Kn.V) (w : World) (hu : Kn.Vals w u l) (hl : l.length ≤ 65536) (ha : l.all (Cl.is c) = true) (hi : ∀ v ∈ l, Ty.I64 v.n) :
 Calls Tryz.prog 107 #[c.val, u] w fun e w' => e = .returned (.string (Ty.S (Cl.vals c l))) ∧ Below w.heap.size w w' := by
 have hk : (((c.k == 1) = true) ∧ c.k = 1) ∨ ((c.k == 1) = false ∧ c.k ≠ 1) := by
  by_cases h : c.k = 1
  ·left; exact ⟨by rw [h]; rfl, h⟩
  ·right; exact ⟨by rw [beq_eq_false_iff_ne]; exact h, h⟩
 have HV1 : Hid (c.k = 1 → Cl.vals c l = Ig.enc (Ig.bk (Cl.nums l) 3) (Cl.nums l)) := Lib.hid fun h => by unfold Cl.vals; rw [if_pos h]
 have HV2 : Hid (c.k ≠ 1 → Cl.vals c l = Tx.enc (Tx.bestK (Cl.words l)) (Cl.words l) ∧ Tx.fit (Cl.words l) = true) := Lib.hid fun h => ⟨by unfold Cl.vals; rw [if_neg h], Cl.words_fit h ha hl⟩
 obtain ⟨S, hS⟩ : ∃ S, S = Ty.S (Cl.vals c l) := ⟨_, rfl⟩
 rw [← hS]
 have HS0 := Lib.hid hS
 clear hS
 have HI := Lib.hid (Cl.nums_I64 hi)
 have HNL := Lib.hid (Nat.le_trans (Cl.nums_len l) hl)
 have HWL := Lib.hid (Nat.le_trans (Cl.words_len l) hl)
 have HU := Lib.hid hu
 clear ha hi hu
 obtain ⟨ck, cn⟩ := c
 unfold Kn.C.val
 simp only at hk HV1 HV2 HS0 ⊢
 obtain ⟨a, cp, rfl, h⟩ := HU.out.is
 have HH := Lib.hid h
 clear h
 have HBX := Lib.hid (Kn.cell_new w #[.int .i64 ck, .bool cn] 76 0 _ rfl)
 have HB0 : Hid (Below w.heap.size w (w.alloc (.cells #[.int .i64 ck, .bool cn] 76))) := Lib.hid ((Below.refl _ _).alloc (Nat.le_refl _) _)
 have hsz : (w.alloc (.cells #[.int .i64 ck, .bool cn] 76)).heap.size = w.heap.size + 1 := World.size_alloc ..
 go_enter Tryz.func107, Tryz.ntmps107
 go_wp2_with fail
 generalize hwo : w.alloc _ = wo at hsz HBX HB0
 clear hwo
 go_wp2_with fail
 go_loopw [5, 6, 7] (fun nv sv i wr => ∃ k : Nat, k ≤ l.length ∧ i = .int .i64 k ∧ Ig.Own wo.heap.size wr nv (Cl.nums (l.take k)) ∧ Tx.Own wo.heap.size wr sv (Cl.words (l.take k)) ∧ Below wo.heap.size wo wr) (fun _ _ i _ => l.length - (intOf i).toNat)
 case atStart => exact ⟨0, by omega, rfl, Ig.Own.nil _ _, Tx.Own.nil _ _, Below.refl _ _⟩
 case round =>
  obtain ⟨k, hkl, rfl, hN, hW, hb⟩ := hrel
  have HB := Lib.hid hb
  have HN := Lib.hid hN
  have HW := Lib.hid hW
  have hws := hb.size
  have hcz : wr.cell? ⟨w.heap.size, 0, none⟩ = some (.int .i64 ck) := (hb.cell (p := ⟨w.heap.size, 0, none⟩) (by simp [hsz])).trans HBX.out
  clear hN hW hb
  by_cases hlt : k < l.length
  ·rcases HH.out with h | ⟨b, o, rfl, hbl, hm, h⟩
   ·exact absurd hlt (by rw [h]; simp)
   ·obtain ⟨x, hx⟩ : ∃ x, l[k]? = some x := ⟨_, List.getElem?_eq_getElem hlt⟩
    have hA := h k x hx
    have HX := Lib.hid hx
    have hbl2 : b < wo.heap.size := by omega
    have HA : Hid (∀ W, Below wo.heap.size wo W → W.cell? ⟨b, o + k * 3, none⟩ = some (.bool x.null) ∧ W.cell? ⟨b, o + k * 3 + 1, none⟩ = some (.int .i64 x.n) ∧ W.cell? ⟨b, o + k * 3 + 2, none⟩ = some (.string x.s)) := Lib.hid fun W g => by
     have h0 := (hA.later HB0.out).later (g.mono (Nat.le_refl _))
     exact ⟨h0.c0, h0.c1, h0.c2⟩
    obtain ⟨a0, a1, a2⟩ := HA.out _ HB.out
    have dk : (k : Int) < (l.length : Int) := by omega
    have dk0 : (0 : Int) ≤ (k : Int) := by omega
    clear h hA hx
    cases hn : x.null
    ·have HS := Lib.hid (Cl.nums_snoc HX.out hn)
     rw [hn] at a0
     clear hn a2
     have hlen := Cl.nums_take l k
     have hO := HN.out
     go_wp2_with (at_builtin; first
      | (refine Bt.wpList_append_one 2 187 (.int .i64 0) 8 Tryz.underlying187 Ig.infoI rfl (hO.pre x.n) (by omega) (by omega) (by omega) (.tmp 24) (.tmp 30) _ rfl rfl rfl rfl rfl ?_
         intro v5 w5 h5 g5
         have HB5 := Lib.hid (Cl.grew_below HB.out hO g5)
         have a2 := (HA.out w5 HB5.out).2.2
         have hs5 := HB5.out.size
         have hO5 : Tx.Own wo.heap.size w5 u6 (Cl.words (l.take k)) := Cl.buf_grew (by decide) HW.out hO g5)
      | (refine Bt.wpList_append_one 9 111 (.string ⟨#[]⟩) 16 Tryz.underlying111 Tx.infoS rfl (hO5.pre x.s.data.toList) (by omega) (by omega) (by omega) (.tmp 32) (.tmp 38) _ rfl rfl rfl rfl rfl ?_
         intro v6 w6 h6 g6))
     have H5 := Lib.hid (Ig.Own.post (h5 (Ig.iv_snoc _ x.n)))
     have H6 := Lib.hid (Tx.Own.post (h6 (by rw [← Tx.sv_snoc, Ty.S_data])))
     have HB6 := Lib.hid (Cl.grew_below HB5.out hO5 g6)
     have HN6 : Hid (Ig.Own wo.heap.size w6 v5 (Cl.nums (l.take k) ++ [x.n])) := Lib.hid (Cl.buf_grew (by decide) H5.out hO5 g6)
     clear h6 g6 hO5 hlen h5 g5 hO
     go_wp2
     go_roundw
     case rel => exact ⟨k + 1, by omega, by simp, by rw [HS.out.1]; exact HN6.out, by rw [HS.out.2]; exact H6.out, HB6.out⟩
     case measure => simp [intOf]; omega
    ·have HS := Lib.hid (Cl.nums_null HX.out hn)
     rw [hn] at a0
     clear hn a1 a2
     go_wp2
     go_roundw
     case rel => exact ⟨k + 1, by omega, by simp, by rw [HS.out.1]; exact HN.out, by rw [HS.out.2]; exact HW.out, HB.out⟩
     case measure => simp [intOf]; omega
  ·obtain rfl : k = l.length := by omega
   have dk : ¬ (l.length : Int) < (l.length : Int) := by omega
   have hN := HN.out
   have hW := HW.out
   rw [List.take_length] at hN hW
   have HBW := Lib.hid (HB0.out.trans (HB.out.mono HB0.out.size))
   rcases hk with ⟨hk, hk1⟩ | ⟨hk, hk1⟩
   ·have cb := Ig.rbest_c _ _ _ hN.at HI.out (Nat.le_trans HNL.out (by omega))
    rw [Ig.bestV_good (by have := HNL.out; omega)] at cb
    have HR := Lib.hid (HS0.out.trans (congrArg Ty.S (HV1.out hk1)))
    clear hN hW hk1
    go_wp2_with fail
    refine cb.mono ?_
    rintro e w1 ⟨rfl, g1⟩
    have HG := Lib.hid (HBW.out.trans (g1.mono HBW.out.size))
    clear cb g1
    go_wp2
    go_ret
    exact ⟨by rw [HR.out]; rfl, HG.out⟩
   ·have cb := Tx.rbest_c _ _ _ hW.at (Nat.le_trans HWL.out (by omega))
    unfold Tx.bestV at cb
    rw [if_pos (HV2.out hk1).2] at cb
    have HR := Lib.hid (HS0.out.trans (congrArg Ty.S (HV2.out hk1).1))
    clear hN hW hk1
    go_wp2_with fail
    refine cb.mono ?_
    rintro e w1 ⟨rfl, g1⟩
    have HG := Lib.hid (HBW.out.trans (g1.mono HBW.out.size))
    clear cb g1
    go_wp2
    go_ret
    exact ⟨by rw [HR.out]; rfl, HG.out⟩
end Go.Proofs.YtbelkhkllneifaaGreatDoor

namespace Go.Proofs.YtbelkhkllneifaaGreatDoor
open Go.RowKit
open Ig (nth encI encR grp low off diffs prv)
open Ty (encU num)
end Go.Proofs.YtbelkhkllneifaaGreatDoor

namespace Go.Proofs.YtbelkhkllneifaaGreatDoor
open Go.RowKit
open Ig (nth encI encR grp low off diffs prv sg rest)
open Ty (encU num)
end Go.Proofs.YtbelkhkllneifaaGreatDoor

namespace Go.Proofs.YtbelkhkllneifaaGreatDoor
open Go.RowKit
open Ig (nth encI encR grp low off diffs prv sg rest outs good un rdPacked)
open Ty (encU num)
def Ig.anyZ (X : Nat → Nat) (k : Nat) : Bool := (List.range k).any (fun i => X i == 0)
end Go.Proofs.YtbelkhkllneifaaGreatDoor

namespace Go.Proofs.YtbelkhkllneifaaGreatDoor
open Go.RowKit
open Ig (nth sg rest rd rdBody rdInts acc)
open Ty (num)
def Ig.ofK (K : Nat) (M : List Int) : List Int := if K = 0 then M else acc 0 M
def Ig.LoopR (K n : Nat) (l : List UInt8) (j : Nat) (M2 : List Int) (l2 : List UInt8) (er : Nat) : Prop :=
 (er = 0 ∧ ∃ M, Ig.Mid n l j M l2 ∧ M2 = Ig.ofK K M) ∨ (er ≠ 0 ∧ (rdInts n l).1 = er ∧ j ≤ n)
theorem Ig.LoopR.step {K n : Nat} {l : List UInt8} {j : Nat} {M : List Int} {l2 : List UInt8} (hM : Ig.Mid n l j M l2) (hj : j < n) {M3 : List Int} (h3 : M3 = Ig.ofK K (M ++ [sg l2])) : Ig.LoopR K n l (j + 1) M3 (rest l2) (num l2).2.2 := by
 by_cases h : (num l2).2.2 = 0
 ·exact .inl ⟨h, _, hM.next hj h, h3⟩
 ·exact .inr ⟨h, hM.fail hj h, by omega⟩
end Go.Proofs.YtbelkhkllneifaaGreatDoor

namespace Go.Proofs.YtbelkhkllneifaaGreatDoor
open Go.RowKit
open Ty (encU num txt)
open Tx (restT rdWords rdPick outs)
open Ig (un)
theorem Tx.rdPk1 {n : Nat} {d : List Tx.Str} : rdPick n d [] = (2, [], []) := rfl
theorem Tx.rdPk2 {n : Nat} {d : List Tx.Str} {b : UInt8} {r : List UInt8} (h : 64 < b.toNat) : (rdPick n d (b :: r)).1 = 4 := by
 unfold rdPick
 simp only
 rw [if_pos h]
theorem Tx.rdPk3 {n : Nat} {d : List Tx.Str} {b : UInt8} {r : List UInt8} (h : ¬ 64 < b.toNat) (h2 : r.length < Bt.need (n * b.toNat)) : (rdPick n d (b :: r)).1 = 2 := by
 unfold rdPick
 simp only
 rw [if_neg h, if_pos h2]
theorem Tx.rdPk4 {n : Nat} {d : List Tx.Str} {b : UInt8} {r : List UInt8} (h : ¬ 64 < b.toNat) (h2 : ¬ r.length < Bt.need (n * b.toNat)) (h3 : Bt.chk (Ty.S (r.take (Bt.need (n * b.toNat)))) (n * b.toNat) ≠ 0) : (rdPick n d (b :: r)).1 = Bt.chk (Ty.S (r.take (Bt.need (n * b.toNat)))) (n * b.toNat) := by
 have h3' : Bt.chk ⟨(r.take (Bt.need (n * b.toNat))).toArray⟩ (n * b.toNat) ≠ 0 := h3
 unfold rdPick
 simp only
 rw [if_neg h, if_neg h2, if_pos h3']
 rfl
theorem Tx.rdPk5 {n : Nat} {d : List Tx.Str} {b : UInt8} {r : List UInt8} (h : ¬ 64 < b.toNat) (h2 : ¬ r.length < Bt.need (n * b.toNat)) (h3 : Bt.chk (Ty.S (r.take (Bt.need (n * b.toNat)))) (n * b.toNat) = 0) (h4 : ¬ Tx.right n b.toNat d (un (Ty.S (r.take (Bt.need (n * b.toNat)))) b.toNat) = true) : (rdPick n d (b :: r)).1 = 4 := by
 have h3' : ¬ Bt.chk ⟨(r.take (Bt.need (n * b.toNat))).toArray⟩ (n * b.toNat) ≠ 0 := fun e => e h3
 have h4' : ¬ Tx.right n b.toNat d (un ⟨(r.take (Bt.need (n * b.toNat))).toArray⟩ b.toNat) = true := h4
 unfold rdPick
 simp only
 rw [if_neg h, if_neg h2, if_neg h3', if_neg h4']
theorem Tx.rdPk6 {n : Nat} {d : List Tx.Str} {b : UInt8} {r : List UInt8} (h : ¬ 64 < b.toNat) (h2 : ¬ r.length < Bt.need (n * b.toNat)) (h3 : Bt.chk (Ty.S (r.take (Bt.need (n * b.toNat)))) (n * b.toNat) = 0) (h4 : Tx.right n b.toNat d (un (Ty.S (r.take (Bt.need (n * b.toNat)))) b.toNat) = true) : rdPick n d (b :: r) = (0, outs n d (un (Ty.S (r.take (Bt.need (n * b.toNat)))) b.toNat), r.drop (Bt.need (n * b.toNat))) := by
 have h3' : ¬ Bt.chk ⟨(r.take (Bt.need (n * b.toNat))).toArray⟩ (n * b.toNat) ≠ 0 := fun e => e h3
 have h4' : Tx.right n b.toNat d (un ⟨(r.take (Bt.need (n * b.toNat))).toArray⟩ b.toNat) = true := h4
 unfold rdPick
 simp only
 rw [if_neg h, if_neg h2, if_neg h3', if_pos h4']
 rfl
def Tx.mark (X : Nat → Nat) (k j : Nat) : Bool := (List.range k).any fun i => X i == j
theorem Tx.right_iff {n w : Nat} {d : List Tx.Str} {X : Nat → Nat} : Tx.right n w d X = true ↔ (∀ i, i < n → X i < d.length) ∧ (∀ j, j < d.length → Tx.mark X n j = true) ∧ Bt.wid n X = w := by
 unfold Tx.right Tx.mark
 simp only [Bool.and_eq_true, List.all_eq_true, List.mem_range, decide_eq_true_iff, beq_iff_eq]
theorem Tx.outs_len (n : Nat) (d : List Tx.Str) (X : Nat → Nat) : (outs n d X).length = n := by simp [outs]
end Go.Proofs.YtbelkhkllneifaaGreatDoor

namespace Go.Proofs.YtbelkhkllneifaaGreatDoor
open Go.RowKit
open Ty (encU num txt)
open Tx (rdPick)
end Go.Proofs.YtbelkhkllneifaaGreatDoor

namespace Go.Proofs.YtbelkhkllneifaaGreatDoor
open Go.RowKit
open Ty (encU num txt)
open Tx (rdPick outs)
def Tx.mv (X : Nat → Nat) (k j : Nat) : Value := .bool (Tx.mark X k j)
theorem Tx.At.str {B n c : Nat} {w : World} {a : Option Addr} {L : List Tx.Str} (h : Tx.At B w (.slice a n c) L) {k : Nat} (hk : k < L.length) : ∃ b o, a = some ⟨b, o, none⟩ ∧ w.cell? ⟨b, o + k, none⟩ = some (.string (Ty.S (L.getD k []))) := by
 obtain ⟨a', c', e, _, _, h⟩ := h
 simp only [Value.slice.injEq] at e
 rcases h with ⟨h, _⟩ | ⟨b, o, ea, _, h⟩
 ·rw [h] at hk; simp at hk
 ·exact ⟨b, o, e.1.trans ea, h k hk⟩
end Go.Proofs.YtbelkhkllneifaaGreatDoor

namespace Go.Proofs.YtbelkhkllneifaaGreatDoor
open Go.RowKit
open Ty (num txt)
open Ig (rest)
open Tx (rdWords rdPick rdBody rd)
def Tx.Got (w : World) (r : Nat × List Tx.Str) (e : Ending) (w' : World) : Prop :=
 ∃ v, e = .returned (.tuple #[v, .int .i64 ((r.1 : Nat) : Int)]) ∧ Tx.At w'.heap.size w' v r.2 ∧ Below w.heap.size w w'
theorem Tx.Got.bad {w w' : World} {r : Nat × List Tx.Str} {z : Int} {q : Nat} (hr : r = (q, [])) (hz : z = (q : Int)) (g : Below w.heap.size w w') : Tx.Got w r (.returned (.tuple #[.slice none 0 0, .int .i64 z])) w' :=
 ⟨_, by rw [hr, hz], by rw [hr]; exact Tx.At.nil _, g⟩
theorem Tx.Got.good {w w' : World} {r : Nat × List Tx.Str} {v : Value} {L : List Tx.Str} (hr : r = (0, L)) (h : Tx.At w'.heap.size w' v L) (g : Below w.heap.size w w') : Tx.Got w r (.returned (.tuple #[v, .int .i64 0])) w' :=
 ⟨v, by rw [hr]; rfl, by rw [hr]; exact h, g⟩
section
variable {x : UInt8} {r : List UInt8}
theorem Tx.rd1 (h : 1 < x.toNat) : rd (x :: r) = (4, []) := by unfold rd; simp only; rw [if_pos h]
theorem Tx.rd2 (h : ¬ 1 < x.toNat) (h2 : (num r).2.2 ≠ 0) : rd (x :: r) = ((num r).2.2, []) := by unfold rd; simp only; rw [if_neg h, if_pos h2]
theorem Tx.rd3 (h : ¬ 1 < x.toNat) (h2 : (num r).2.2 = 0) (h3 : 65536 < (num r).1) : rd (x :: r) = (3, []) := by unfold rd; simp only; rw [if_neg h, if_neg (by rw [h2]; simp), if_pos h3]
theorem Tx.rd4 (h : ¬ 1 < x.toNat) (h2 : (num r).2.2 = 0) (h3 : ¬ 65536 < (num r).1) (h4 : (rdBody x.toNat (num r).1 (rest r)).1 ≠ 0) : rd (x :: r) = ((rdBody x.toNat (num r).1 (rest r)).1, []) := by
 unfold rd; simp only; rw [if_neg h, if_neg (by rw [h2]; simp), if_neg h3, if_pos h4]
theorem Tx.rd5 (h : ¬ 1 < x.toNat) (h2 : (num r).2.2 = 0) (h3 : ¬ 65536 < (num r).1) (h4 : (rdBody x.toNat (num r).1 (rest r)).1 = 0) (h5 : (rdBody x.toNat (num r).1 (rest r)).2.2 ≠ []) : rd (x :: r) = (5, []) := by
 unfold rd; simp only; rw [if_neg h, if_neg (by rw [h2]; simp), if_neg h3, if_neg (by rw [h4]; simp), if_pos h5]
theorem Tx.rd6 (h : ¬ 1 < x.toNat) (h2 : (num r).2.2 = 0) (h3 : ¬ 65536 < (num r).1) (h4 : (rdBody x.toNat (num r).1 (rest r)).1 = 0) (h5 : (rdBody x.toNat (num r).1 (rest r)).2.2 = []) : rd (x :: r) = (0, (rdBody x.toNat (num r).1 (rest r)).2.1) := by
 unfold rd; simp only; rw [if_neg h, if_neg (by rw [h2]; simp), if_neg h3, if_neg (by rw [h4]; simp), if_neg (by rw [h5]; simp)]
end
section
variable {n : Nat} {l : List UInt8}
theorem Tx.rdBody0 : rdBody 0 n l = rdWords false n none l := rfl
theorem Tx.rdB1 (h : (num l).2.2 ≠ 0) : (rdBody 1 n l).1 = (num l).2.2 := by unfold rdBody; rw [if_neg (by decide), if_pos h]
theorem Tx.rdB2 (h : (num l).2.2 = 0) (h2 : 65536 < (num l).1) : (rdBody 1 n l).1 = 3 := by unfold rdBody; rw [if_neg (by decide), if_neg (by rw [h]; simp), if_pos h2]
theorem Tx.rdB3 (h : (num l).2.2 = 0) (h2 : ¬ 65536 < (num l).1) (h3 : (rdWords true (num l).1 none (rest l)).1 ≠ 0) : (rdBody 1 n l).1 = (rdWords true (num l).1 none (rest l)).1 := by unfold rdBody; rw [if_neg (by decide), if_neg (by rw [h]; simp), if_neg h2, if_pos h3]
theorem Tx.rdB4 (h : (num l).2.2 = 0) (h2 : ¬ 65536 < (num l).1) (h3 : (rdWords true (num l).1 none (rest l)).1 = 0) : rdBody 1 n l = rdPick n (rdWords true (num l).1 none (rest l)).2.1 (rdWords true (num l).1 none (rest l)).2.2 := by unfold rdBody; rw [if_neg (by decide), if_neg (by rw [h]; simp), if_neg h2, if_neg (by rw [h3]; simp)]
end
end Go.Proofs.YtbelkhkllneifaaGreatDoor

namespace Go.Proofs.YtbelkhkllneifaaGreatDoor
open Go.RowKit
theorem Cl.ird_bad {l : List UInt8} (h : (Ig.rd l).1 ≠ 0) : (Ig.rd l).2 = [] := by
 unfold Ig.rd at h ⊢
 cases l with
 | nil => rfl
 | cons b r =>
   simp only at h ⊢
   split
   ·rfl
   ·split
    ·rfl
    ·split
     ·rfl
     ·split
      ·rfl
      ·split
       ·rfl
       ·rename_i a1 a2 a3 a4 a5
        rw [if_neg a1, if_neg a2, if_neg a3, if_neg a4, if_neg a5] at h
        exact absurd rfl h
theorem Cl.trd_bad {l : List UInt8} (h : (Tx.rd l).1 ≠ 0) : (Tx.rd l).2 = [] := by
 unfold Tx.rd at h ⊢
 cases l with
 | nil => rfl
 | cons b r =>
   simp only at h ⊢
   split
   ·rfl
   ·split
    ·rfl
    ·split
     ·rfl
     ·split
      ·rfl
      ·split
       ·rfl
       ·rename_i a1 a2 a3 a4 a5
        rw [if_neg a1, if_neg a2, if_neg a3, if_neg a4, if_neg a5] at h
        exact absurd rfl h
theorem Cl.ird_len (l : List UInt8) : (Ig.rd l).2.length ≤ 65536 := by
 by_cases h : (Ig.rd l).1 = 0
 ·obtain ⟨b, r, _, _, _, h, _⟩ := Ig.enc_rd l h
  exact h
 ·rw [Cl.ird_bad h]; simp
theorem Cl.trd_len (l : List UInt8) : (Tx.rd l).2.length ≤ 65536 := by
 by_cases h : (Tx.rd l).1 = 0
 ·obtain ⟨b, r, _, _, _, h, _⟩ := Tx.enc_rd l h
  exact h
 ·rw [Cl.trd_bad h]; simp
theorem Cl.back_len (c : Kn.C) (l : List UInt8) : (Cl.back c l).2.length ≤ 65536 := by
 unfold Cl.back
 split
 ·rw [List.length_map]; exact Cl.ird_len l
 ·rw [List.length_map]; exact Cl.trd_len l
end Go.Proofs.YtbelkhkllneifaaGreatDoor

namespace Go.Proofs.YtbelkhkllneifaaGreatDoor
open Go.RowKit
theorem Cl.vals_len {c : Kn.C} {l : List Kn.V} (h : l.all (Cl.is c) = true) (hl : l.length ≤ 65536) : (Cl.vals c l).length ≤ 4800000 := by
 unfold Cl.vals
 by_cases hk : c.k = 1
 ·rw [if_pos hk]
  have h1 := Ig.bk_least (Cl.nums l) 3 0 (by omega)
  have h2 := Ig.len_flat (Cl.nums l)
  have h3 := Ty.encU_len9 (Cl.nums l).length
  have h4 := Cl.nums_len l
  have e : (Ig.enc 0 (Cl.nums l)).length = 1 + ((Ty.encU (Cl.nums l).length).length + ((Cl.nums l).flatMap Ig.encI).length) := by
   unfold Ig.enc Ig.body
   rw [if_pos rfl, List.length_cons, List.length_append]
   omega
  omega
 ·rw [if_neg hk]
  have hf := Tx.fit_yes (Cl.words_fit hk h hl)
  have h2 := Tx.len_flat (Cl.words l) hf.2
  have h3 := Ty.encU_len9 (Cl.words l).length
  have h4 := hf.1
  have e : (Tx.enc 0 (Cl.words l)).length = 1 + ((Ty.encU (Cl.words l).length).length + ((Cl.words l).flatMap Tx.encT).length) := by
   unfold Tx.enc Tx.body
   rw [if_pos rfl, List.length_cons, List.length_append]
   omega
  unfold Tx.bestK
  split <;> omega
def Cl.wS (c : Kn.C) (l : List Kn.V) : List UInt8 := if Cl.wE c l = 0 then Cl.enc c l else []
def Cl.wV (c : Kn.C) (l : List Kn.V) : Value := .tuple #[.string (Ty.S (Cl.wS c l)), .int .i64 ((Cl.wE c l : Nat) : Int)]
theorem Cl.wV_bad {c : Kn.C} {l : List Kn.V} {q : Nat} (h : Cl.wE c l = q) (hq : q ≠ 0) : Cl.wV c l = .tuple #[.string (Ty.S []), .int .i64 (q : Int)] := by
 unfold Cl.wV Cl.wS
 rw [h, if_neg hq]
theorem Cl.wV_ok {c : Kn.C} {l : List Kn.V} (h : Cl.wE c l = 0) : Cl.wV c l = .tuple #[.string (Ty.S (Cl.enc c l)), .int .i64 0] := by
 unfold Cl.wV Cl.wS
 rw [h, if_pos rfl]
 rfl
theorem Cl.nulls_at {l : List Kn.V} {k : Nat} {x : Kn.V} (h : l[k]? = some x) : Cl.nulls l k = x.null := by
 unfold Cl.nulls
 rw [List.getD, h]
 rfl
theorem Cl.wE_6 {c : Kn.C} {l : List Kn.V} {k : Nat} {x : Kn.V} (hg : c.good = true) (hl : l.length ≤ 65536) (h : l[k]? = some x) (hx : Cl.is c x = false) : Cl.wE c l = 6 := by
 have : l.all (Cl.is c) = false := by
  rw [Bool.eq_false_iff]
  intro ha
  have := List.all_eq_true.1 ha x (List.mem_of_getElem? h)
  rw [hx] at this
  cases this
 unfold Cl.wE
 rw [if_pos hg, if_neg (by omega), this, if_neg (by decide)]
theorem Cl.all_of {c : Kn.C} {l : List Kn.V} (h : ∀ (i : Nat) (x : Kn.V), l[i]? = some x → Cl.is c x = true) : l.all (Cl.is c) = true :=
 List.all_eq_true.2 fun x hx => by
  obtain ⟨i, hi⟩ := List.getElem?_of_mem hx
  exact h i x hi
set_option maxHeartbeats 2000000 in
set_option maxRecDepth 100000 in
theorem Cl.rwrite_c (c : Kn.C) (u : Value) (l : List Kn.V) (w : World) (hu : Kn.Vals w u l) (hi : ∀ v ∈ l, Ty.I64 v.n) :
 Calls Tryz.prog 75 #[c.val, u] w fun e w' => e = .returned (Cl.wV c l) ∧ Below w.heap.size w w' := by
 have hgw := Kn.good_ways c
 have HE4 : Hid (c.good = false → Cl.wE c l = 4) := Lib.hid fun h => by unfold Cl.wE; rw [if_neg (by rw [h]; decide)]
 have HE3 : Hid (c.good = true → 65536 < l.length → Cl.wE c l = 3) := Lib.hid fun h h2 => by unfold Cl.wE; rw [if_pos h, if_pos h2]
 have HE6 : Hid (c.good = true → l.length ≤ 65536 → ∀ (k : Nat) (x : Kn.V), l[k]? = some x → Cl.is c x = false → Cl.wE c l = 6) := Lib.hid fun h h2 k x h3 h4 => Cl.wE_6 h h2 h3 h4
 have HE0 : Hid (c.good = true → l.length ≤ 65536 → l.all (Cl.is c) = true → Cl.wE c l = 0) := Lib.hid fun h h2 h3 => by unfold Cl.wE; rw [if_pos h, if_neg (by omega), if_pos h3]
 have CI := Lib.hid fun (x : Kn.V) wz => Cl.ris_c c x wz
 have CV := Lib.hid fun wz (h : Kn.Vals wz u l) hl ha => Cl.rvalues_c c u l wz h hl ha hi
 have CL := Lib.hid fun (ha : l.all (Cl.is c) = true) (hl : l.length ≤ 65536) => Cl.vals_len ha hl
 obtain ⟨V, hV⟩ : ∃ V, V = Cl.wV c l := ⟨_, rfl⟩
 rw [← hV]
 have HV := Lib.hid hV
 have HU := Lib.hid hu
 clear hV hi hu
 obtain ⟨a, cp, rfl, h⟩ := HU.out.is
 have HH := Lib.hid h
 clear h
 have hsz : (w.alloc (.cells #[.int .i64 c.k, .bool c.null] 76)).heap.size = w.heap.size + 1 := World.size_alloc ..
 have HB0 : Hid (Below w.heap.size w (w.alloc (.cells #[.int .i64 c.k, .bool c.null] 76))) := Lib.hid ((Below.refl _ _).alloc (Nat.le_refl _) _)
 have HX0 := Lib.hid (Kn.cell_new w #[.int .i64 c.k, .bool c.null] 76 0 _ rfl)
 have HX1 := Lib.hid (Kn.cell_new w #[.int .i64 c.k, .bool c.null] 76 1 _ rfl)
 rcases hgw with ⟨hg, k1⟩ | ⟨hg, k1, k2⟩ | ⟨hg, k1, k2⟩
 rotate_left 2
 ·have HE := Lib.hid (HV.out.trans (Cl.wV_bad (HE4.out hg) (by decide)))
  unfold Kn.C.val
  go_enter Tryz.func75, Tryz.ntmps75
  go_wp2
  go_ret2
  exact ⟨by rw [HE.out]; rfl, HB0.out⟩
 all_goals
  by_cases hln : 65536 < l.length
  ·have HE := Lib.hid (HV.out.trans (Cl.wV_bad (HE3.out hg hln) (by decide)))
   have hlni : (65536 : Int) < (l.length : Int) := by omega
   unfold Kn.C.val
   clear hln
   go_enter Tryz.func75, Tryz.ntmps75
   go_wp2
   go_ret2
   exact ⟨by rw [HE.out]; rfl, HB0.out⟩
  ·have hlni : ¬ (65536 : Int) < (l.length : Int) := by omega
   have hl65 : l.length ≤ 65536 := by omega
   have HE6' := Lib.hid (HE6.out hg hl65)
   have HE0' := Lib.hid (HE0.out hg hl65)
   have hwk : IntKind.u64.wrap (l.length : Int) = (l.length : Int) := by rw [IntKind.wrap_u64]; omega
   have HWK := Lib.hid hwk
   unfold Kn.C.val
   clear hln hwk
   go_enter Tryz.func75, Tryz.ntmps75
   go_wp2_with fail
   generalize hwo : w.alloc _ = wo at hsz HX0 HX1 HB0
   clear hwo
   go_wp2_with fail
   go_loopw [6, 7] (fun nv i wr => ∃ k : Nat, k ≤ l.length ∧ i = .int .i64 k ∧ Bt.Buf 4 wo.heap.size wr nv k (Bt.bv (Cl.nulls l)) ∧ Below wo.heap.size wo wr ∧ ∀ j x, j < k → l[j]? = some x → Cl.is c x = true) (fun _ i _ => l.length - (intOf i).toNat)
   case atStart => exact ⟨0, by omega, rfl, Bt.Buf.nil _ _ _ _, Below.refl _ _, fun j x hj => by omega⟩
   case round =>
    obtain ⟨k, hkl, rfl, hO, hb, hall⟩ := hrel
    have HB := Lib.hid hb
    have HO := Lib.hid hO
    have HALL := Lib.hid hall
    have hws := hb.size
    have hx0 := (hb.cell (p := ⟨w.heap.size, 0, none⟩) (by simp [hsz])).trans HX0.out
    have hx1 := (hb.cell (p := ⟨w.heap.size, 1, none⟩) (by simp [hsz])).trans HX1.out
    simp only [List.getElem_toArray, List.getElem_cons_zero, List.getElem_cons_succ] at hx0 hx1
    clear hO hb hall
    have E0 := fun d os => cell_regrown hx0 d os
    have E1 := fun d os => cell_regrown hx1 d os
    by_cases hlt : k < l.length
    ·rcases HH.out with h | ⟨b, o, rfl, hbl, hm, h⟩
     ·exact absurd hlt (by rw [h]; simp)
     ·obtain ⟨x, hx⟩ : ∃ x, l[k]? = some x := ⟨_, List.getElem?_eq_getElem hlt⟩
      have hA := ((h k x hx).later HB0.out).later HB.out
      have HA := Lib.hid hA
      have HX := Lib.hid hx
      obtain ⟨a0, a1, a2⟩ := hA
      have dk : (k : Int) < (l.length : Int) := by omega
      have dk0 : (0 : Int) ≤ (k : Int) := by omega
      have E2 := fun d os => cell_regrown a0 d os
      have E3 := fun d os => cell_regrown a1 d os
      have E4 := fun d os => cell_regrown a2 d os
      have CIS : Hid (∀ p : Regrown, Calls Tryz.prog 106 #[.agg #[.int .i64 c.k, .bool c.null], .agg #[.bool x.null, .int .i64 x.n, .string x.s]] (Sort.grow (redrawn wr p.d) p.os) fun e w'' => e = .returned (.bool (Cl.is c x)) ∧ ∃ p : Regrown, w'' = Sort.grow (redrawn wr p.d) p.os) := Lib.hid fun p => Calls.regrown_of (CI.out x _)
      clear h hx
      cases hB : Cl.is c x
      ·have HE := Lib.hid (HV.out.trans (Cl.wV_bad (HE6'.out k x HX.out hB) (by decide)))
       rw [hB] at CIS
       clear hB
       go_wp2_with fail
       refine wp_region_quiet_below (by kernel_rfl) (by kernel_rfl) ?_
       repeat (go_big_quiet_step (first | with_reducible exact CIS.out _))
       refine wpQuiet_nil ?_
       intro wq hw'
       have HBQ := Lib.hid (HB0.out.trans ((HB.out.trans ((Ig.below_reg hw').mono hws)).mono HB0.out.size))
       clear hw'
       go_wp2
       go_ret2
       exact ⟨by rw [HE.out]; rfl, HBQ.out⟩
      ·have HIS := Lib.hid hB
       rw [hB] at CIS
       clear hB
       go_wp2_with fail
       refine wp_region_quiet_below (by kernel_rfl) (by kernel_rfl) ?_
       repeat (go_big_quiet_step (first | with_reducible exact CIS.out _))
       refine wpQuiet_nil ?_
       intro wq hw'
       have hbq := Ig.below_reg hw'
       have hOq := HO.out.kept hbq
       have hsq := hbq.size
       obtain ⟨q0, q1, q2⟩ := HA.out.later hbq
       have HBQ := Lib.hid (HB.out.trans (hbq.mono hws))
       clear hw' hbq E0 E1 E2 E3 E4 a0 a1 a2 q1 q2 hx0 hx1
       go_wp2_with (at_builtin; refine Bt.wpList_append_one 4 132 (.bool false) 1 Tryz.underlying132 Bt.infoB rfl hOq (by omega) (by omega) (by omega) (.tmp 32) (.tmp 38) _ rfl rfl rfl rfl rfl ?_; intro v5 w5 h5 g5)
       have H5 := Lib.hid (h5 (by unfold Bt.bv; rw [Cl.nulls_at HX.out]))
       have HB5 := Lib.hid (Cl.grew_below HBQ.out hOq g5)
       clear h5 g5 hOq
       go_roundw
       case rel => exact ⟨k + 1, by omega, by simp, H5.out, HB5.out, fun j y hj hy => by
        by_cases e : j = k
        ·subst e
         rw [HX.out] at hy
         obtain rfl := Option.some.inj hy
         exact HIS.out
        ·exact HALL.out j y (by omega) hy⟩
       case measure => simp [intOf]; omega
    ·obtain rfl : k = l.length := by omega
     have dk : ¬ (l.length : Int) < (l.length : Int) := by omega
     have hall : l.all (Cl.is c) = true := Cl.all_of fun i x hx => HALL.out i x (by
      rcases Nat.lt_or_ge i l.length with h | h
      ·exact h
      ·rw [List.getElem?_eq_none h] at hx; cases hx) hx
     have HE := Lib.hid (HV.out.trans (Cl.wV_ok (HE0'.out hall)))
     have hvl := CL.out hall hl65
     have hnn := (Bt.need_room l.length).2
     have CVP : ∀ p : Regrown, Calls Tryz.prog 107 #[.agg #[.int .i64 c.k, .bool c.null], .slice a l.length cp] (Sort.grow (redrawn wr p.d) p.os) fun e w'' => e = .returned (.string (Ty.S (Cl.vals c l))) ∧ ∃ p : Regrown, w'' = Sort.grow (redrawn wr p.d) p.os := fun p => Calls.regrown_of (CV.out _ (((HU.out.later HB0.out).later HB.out).later (below_regrown wr p.d p.os)) hl65 hall)
     have CBP : ∀ p : Regrown, Calls Tryz.prog 74 #[u6] (Sort.grow (redrawn wr p.d) p.os) fun e w'' => e = .returned (.string (Bt.bytes (Bt.need l.length) (Bt.tr l.length (Cl.nulls l)))) ∧ ∃ p : Regrown, w'' = Sort.grow (redrawn wr p.d) p.os := fun p => Calls.regrown_of (Bt.rbytes_c u6 l.length (Cl.nulls l) _ (HO.out.kept (below_regrown wr p.d p.os)).sl (by omega))
     have CUP : ∀ p : Regrown, Calls Tryz.prog 40 #[.int .u64 (l.length : Int)] (Sort.grow (redrawn wr p.d) p.os) fun e w'' => e = .returned (.string (Ty.S (Ty.encU l.length))) ∧ ∃ p : Regrown, w'' = Sort.grow (redrawn wr p.d) p.os := fun p => Calls.regrown_of (Ty.ruint_nat l.length _)
     have hen : Cl.enc c l = Ty.encU l.length ++ ((Bt.bytes (Bt.need l.length) (Bt.tr l.length (Cl.nulls l))).data.toList ++ Cl.vals c l) := rfl
     have hA9 : (Ty.S (Ty.encU l.length)).size ≤ 9 := Ty.encU_len9 l.length
     have hB9 : (Bt.bytes (Bt.need l.length) (Bt.tr l.length (Cl.nulls l))).size = Bt.need l.length := Bt.size_bytes _ _
     have hC9 : (Ty.S (Cl.vals c l)).size ≤ 4800000 := hvl
     obtain ⟨A, hA⟩ : ∃ A, A = Ty.S (Ty.encU l.length) := ⟨_, rfl⟩
     obtain ⟨B, hBB⟩ : ∃ B, B = Bt.bytes (Bt.need l.length) (Bt.tr l.length (Cl.nulls l)) := ⟨_, rfl⟩
     obtain ⟨D, hDD⟩ : ∃ D, D = Ty.S (Cl.vals c l) := ⟨_, rfl⟩
     have HABD : Hid (Ty.S (Cl.enc c l) = (A ++ B) ++ D) := Lib.hid (by
      rw [hA, hBB, hDD, hen, ← Ig.S_add, ← Ig.S_add, Ty.S_data, ByteArray.append_assoc])
     rw [← hA] at CUP hA9
     rw [← hBB] at CBP hB9
     rw [← hDD] at CVP hC9
     have n1 : ¬ 9223372036854775807 < A.size + B.size := by omega
     have n2 : ¬ 9223372036854775807 < A.size + B.size + D.size := by omega
     have CUQ := Lib.hid CUP
     rw [← HWK.out] at CUP
     have CUR := Lib.hid CUP
     have CVQ := Lib.hid CVP
     have CBQ := Lib.hid CBP
     clear CVP CBP CUP hen hvl hnn hA hBB hDD hA9 hB9 hC9 hall
     have hwz := HWK.out
     go_wp2_with fail
     refine wp_region_quiet_below (by kernel_rfl) (by kernel_rfl) ?_
     repeat (go_big_quiet_step (first | with_reducible exact CUQ.out _ | with_reducible exact CUR.out _ | with_reducible exact CVQ.out _ | with_reducible exact CBQ.out _))
     refine wpQuiet_nil ?_
     intro wq hw'
     have HBQ := Lib.hid (HB0.out.trans ((HB.out.trans ((Ig.below_reg hw').mono hws)).mono HB0.out.size))
     clear hw'
     go_wp2
     go_ret2
     exact ⟨by rw [HE.out, HABD.out]; rfl, HBQ.out⟩
end Go.Proofs.YtbelkhkllneifaaGreatDoor
