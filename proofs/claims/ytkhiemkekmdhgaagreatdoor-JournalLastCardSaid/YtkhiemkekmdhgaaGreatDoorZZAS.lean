import Derived.Test.YtkhiemkekmdhgaaGreatDoorZZAH
import Derived.Test.YtkhiemkekmdhgaaGreatDoorZZAF
import Derived.Laws.Rows
import Derived.Laws.Tables
import Derived.Laws.CopyOwn
import Derived.Test.YtkhiemkekmdhgaaGreatDoorZZAR
import Derived.Test.YtkhiemkekmdhgaaGreatDoorZZAQ
import Derived.Test.YtkhiemkekmdhgaaGreatDoorZZAB
import Derived.Test.YtkhiemkekmdhgaaGreatDoorZZAK
import Derived.Test.YtkhiemkekmdhgaaGreatDoorZZAI
import Derived.Test.YtkhiemkekmdhgaaGreatDoorRows
import Derived.RangeFuncNested
import Derived.RangeFuncBound
import Derived.RangeFuncLeaves
namespace Go.Proofs.YtkhiemkekmdhgaaGreatDoor
open Go.RowKit
def Fr.half (j : Nat) : Value := .int .u32 ((Fr.Tn 4 j : Nat) : Int)
theorem Fr.nib (r : Nat) : Fr.Tn 4 r = r / 16 ^^^ Fr.Tn 4 (r % 16) := Fr.Tn_split 4 r
theorem Fr.Tn8 (r : Nat) : Fr.Tn 8 r = Fr.Tn 4 (Fr.Tn 4 r) := Fr.Tn_add 4 4 r
theorem Fr.nib_eq {X Y Z : Nat} (hX : X < 4294967296) (hY : Y = X / 16) (hZ : Z = X % 16) : bits .xor .u32 (Y : Int) ((Fr.Tn 4 Z : Nat) : Int) = ((Fr.Tn 4 X : Nat) : Int) := by
 have h : bits .xor .u32 (Y : Int) ((Fr.Tn 4 Z : Nat) : Int) = ((Y ^^^ Fr.Tn 4 Z : Nat) : Int) := u32_xor_nat _ _ (by omega) (Fr.Tn_lt (by omega))
 rw [h, hY, hZ, ← Fr.nib]
def Fr.zeros : Array Value := #[.int .u32 0, .int .u32 0, .int .u32 0, .int .u32 0, .int .u32 0, .int .u32 0, .int .u32 0, .int .u32 0, .int .u32 0, .int .u32 0, .int .u32 0, .int .u32 0, .int .u32 0, .int .u32 0, .int .u32 0, .int .u32 0]
def Fr.Tab (w : World) (g : Nat) : Prop := g < w.heap.size ∧ ∀ j, j < 16 → w.cell? ⟨g, j, none⟩ = some (.int .u32 ((Fr.Tn 4 j : Nat) : Int))
theorem Fr.Tab.kept {w w' : World} {g : Nat} (h : Fr.Tab w g) (b : Below w.heap.size w w') : Fr.Tab w' g := by
 refine ⟨Nat.lt_of_lt_of_le h.1 b.size, fun j hj => ?_⟩
 have := h.2 j hj
 unfold World.cell? at this ⊢
 rw [b.block g h.1]
 exact this
set_option maxHeartbeats 1000000 in
set_option maxRecDepth 100000 in
theorem Fr.half_c (g X : Nat) (hX : X < 4294967296) (w : World) (hT : Fr.Tab w g) :
 Calls Tryz.prog 103 #[.pointer (some ⟨g, 0, none⟩), .int .u32 (X : Int)] w fun e w' => e = .returned (.int .u32 ((Fr.Tn 4 X : Nat) : Int)) ∧ w' = w := by
 obtain ⟨Y, hY⟩ : ∃ Y, Y = X / 16 := ⟨_, rfl⟩
 obtain ⟨Z, hZ⟩ : ∃ Z, Z = X % 16 := ⟨_, rfl⟩
 have hd : (X : Int) / 16 = (Y : Int) := by omega
 have ha : bits .and .u32 (X : Int) 15 = (Z : Int) := by
  have := u32_and_nat X 15 hX (by decide)
  refine this.trans ?_
  rw [hZ, show (15 : Nat) = 2 ^ 4 - 1 from rfl, Nat.and_two_pow_sub_one_eq_mod]
 have hZ16 : Z < 16 := by omega
 have hZi : (Z : Int) < 16 := by omega
 have hZ0 : (0 : Int) ≤ (Z : Int) := by omega
 have c0 := hT.2 Z hZ16
 have hn := Fr.nib_eq hX hY hZ
 generalize Fr.Tn 4 Z = U at c0 hn
 generalize Fr.Tn 4 X = X1 at hn ⊢
 clear hY hZ hT
 go_enter Tryz.func103, Tryz.ntmps103
 go_wp2
 go_ret
 exact ⟨rfl, rfl⟩
set_option maxHeartbeats 1000000 in
set_option maxRecDepth 100000 in
theorem Fr.steps_c (w : World) : Calls Tryz.prog 38 #[] w fun e w' => ∃ g, e = .returned (.pointer (some ⟨g, 0, none⟩)) ∧ Fr.Tab w' g ∧ Below w.heap.size w w' := by
 have hb2 : Below w.heap.size w (w.alloc (.cells Fr.zeros 124)) := (Below.refl _ w).alloc (Nat.le_refl _) _
 have h1 : (w.alloc (.cells Fr.zeros 124)).rowIs w.heap.size 124 16 (Bt.upTo 0 Fr.half (.int .u32 0)) := by
  refine ⟨Fr.zeros, heap_alloc_new w (.cells Fr.zeros 124), rfl, fun i hi => ?_⟩
  have e : Bt.upTo 0 Fr.half (.int .u32 0) i = .int .u32 0 := by unfold Bt.upTo; rw [if_neg (by omega)]
  rw [e]
  rcases (by omega : i = 0 ∨ i = 1 ∨ i = 2 ∨ i = 3 ∨ i = 4 ∨ i = 5 ∨ i = 6 ∨ i = 7 ∨ i = 8 ∨ i = 9 ∨ i = 10 ∨ i = 11 ∨ i = 12 ∨ i = 13 ∨ i = 14 ∨ i = 15) with rfl | rfl | rfl | rfl | rfl | rfl | rfl | rfl | rfl | rfl | rfl | rfl | rfl | rfl | rfl | rfl <;> rfl
 have HLT : Hid (∀ j k, k < 16 → Fr.Tn j k < 4294967296) := Lib.hid fun j k hk => Fr.Tn_lt (by omega)
 have HB2 := Lib.hid hb2
 have H1 := Lib.hid h1
 clear hb2 h1
 go_enter Tryz.func38, Tryz.ntmps38
 go_wp2
 change Code.wp _ _ _ _ (w.alloc (.cells Fr.zeros 124))
 generalize w.alloc (.cells Fr.zeros 124) = w2 at HB2 H1 ⊢
 go_loopw [7] (fun i wr => ∃ k : Nat, k ≤ 16 ∧ i = .int .i64 k ∧ wr.rowIs w.heap.size 124 16 (Bt.upTo k Fr.half (.int .u32 0)) ∧ Below w.heap.size w wr) (fun i _ => 16 - (intOf i).toNat)
 case atStart => exact ⟨0, by omega, rfl, H1.out, HB2.out⟩
 case round =>
  obtain ⟨k, hk, rfl, hR, hB⟩ := hrel
  have HR := Lib.hid hR
  have HB := Lib.hid hB
  clear hR hB HB2 H1
  have hk0 : (0 : Int) ≤ (k : Int) := by omega
  by_cases hl : k < 16
  ·have hki : (k : Int) < 16 := by omega
   have HTL : Hid (∀ j, Fr.Tn j k < 4294967296) := Lib.hid fun j => HLT.out j k hl
   have HHF : Hid (Fr.half k = .int .u32 ((Fr.Tn 4 k : Nat) : Int)) := Lib.hid rfl
   go_wp2_with fail
   go_loop [3, 4, 12] (fun r o j => ∃ i : Nat, i ≤ 4 ∧ j = .int .i64 i ∧ r = .int .u32 (Fr.Tn i k : Nat)) (fun _ _ j => 4 - (intOf j).toNat)
   case atStart => exact ⟨0, by omega, rfl, rfl⟩
   case round =>
    obtain ⟨i, hi, rfl, rfl⟩ := hrel
    have hi0 : (0 : Int) ≤ (i : Int) := by omega
    by_cases hi4 : i < 4
    ·have hii : (i : Int) < 4 := by omega
     have hT := HTL.out i
     have HTN := Lib.hid (Fr.Tn_last i k)
     generalize Fr.Tn i k = Y at hT HTN ⊢
     obtain ⟨Z, hZ⟩ : ∃ Z, Z = Y / 2 := ⟨_, rfl⟩
     have hd : (Y : Int) / 2 = (Z : Int) := by omega
     have hZl : Z < 4294967296 := by omega
     have hand : bits .and .u32 (Y : Int) 1 = ((Y % 2 : Nat) : Int) := by
      have := u32_and_nat Y 1 hT (by decide)
      rwa [Nat.and_one_is_mod] at this
     rcases Nat.mod_two_eq_zero_or_one Y with hm | hm
     ·rw [hm] at hand
      have HE := Lib.hid (HTN.out.trans (Fr.T_even hm))
      rw [← hZ] at HE
      clear hZ hm
      go_wp2
      go_round
      case rel => exact ⟨i + 1, by omega, by simp, by rw [HE.out]⟩
      case measure => simp [intOf]; omega
     ·rw [hm] at hand
      have HE := Lib.hid (HTN.out.trans (Fr.T_odd hm))
      rw [← hZ] at HE
      have hx2 : bits .xor .u32 (Z : Int) 2197175160 = ((Z ^^^ 2197175160 : Nat) : Int) := u32_xor_nat Z 2197175160 hZl (by decide)
      clear hZ hm
      go_wp2
      go_round
      case rel => exact ⟨i + 1, by omega, by simp, by rw [HE.out]⟩
      case measure => simp [intOf]; omega
    ·obtain rfl : i = 4 := by omega
     have c0 := HR.out.cell hl
     have f0 := HR.out.frozen k
     go_wp2
     go_roundw
     case rel => exact ⟨k + 1, by omega, by simp, Bt.upTo_next HR.out rfl, HB.out.trans (Bt.below_set (Nat.le_refl _) _)⟩
     case measure => simp [intOf]; omega
  ·obtain rfl : k = 16 := by omega
   have hall : Fr.Tab wr w.heap.size := ⟨HR.out.lt, fun j hj => by
    have hc := HR.out.cell hj
    rw [hc]
    unfold Bt.upTo
    rw [if_pos hj]
    rfl⟩
   have HA := Lib.hid hall
   clear hall
   have h16 : (16 : Int) < 16 ↔ False := by simp
   go_wp2
   go_ret
   exact ⟨_, rfl, HA.out, HB.out⟩
end Go.Proofs.YtkhiemkekmdhgaaGreatDoor
namespace Go.Proofs.YtkhiemkekmdhgaaGreatDoor
open Go.RowKit
set_option maxHeartbeats 1000000 in
set_option maxRecDepth 100000 in
theorem Fr.tsum_c (g : Nat) (s : ByteArray) (hs : s.size ≤ 140737488355328) (w : World) (hT : Fr.Tab w g) :
 Calls Tryz.prog 74 #[.pointer (some ⟨g, 0, none⟩), .string s] w fun e w' => e = .returned (.int .u32 ((Fr.sum s.data.toList : Nat) : Int)) ∧ w' = w := by
 have HS := Lib.hid hs
 have HST : Hid (∀ k (h : k < s.size), Fr.reg Fr.ones (s.data.toList.take (k + 1)) = Fr.Tn 8 (Fr.reg Fr.ones (s.data.toList.take k) ^^^ (s[k]).toNat)) := Lib.hid fun k h => Fr.reg_step h _
 have HLT : Hid (∀ l, Fr.reg Fr.ones l < 4294967296) := Lib.hid fun l => Fr.reg_lt l Fr.ones (by decide)
 have HC : Hid (∀ X : Nat, X < 4294967296 → Calls Tryz.prog 103 #[.pointer (some ⟨g, 0, none⟩), .int .u32 (X : Int)] w fun e w' => e = .returned (.int .u32 ((Fr.Tn 4 X : Nat) : Int)) ∧ w' = w) := Lib.hid fun X hX => Fr.half_c g X hX w hT
 clear hs hT
 go_enter Tryz.func74, Tryz.ntmps74
 go_wp2
 go_loop [5, 6, 9] (fun r x i => ∃ k : Nat, k ≤ s.size ∧ i = .int .i64 k ∧ r = .int .u32 (Fr.reg Fr.ones (s.data.toList.take k) : Nat)) (fun _ _ i => s.size - (intOf i).toNat)
 case atStart => exact ⟨0, by omega, rfl, rfl⟩
 case round =>
  obtain ⟨k, hk, rfl, rfl⟩ := hrel
  have hk0 : (0 : Int) ≤ (k : Int) := by omega
  have hr := HLT.out (s.data.toList.take k)
  by_cases hl : k < s.size
  ·have hki : (k : Int) < (s.size : Int) := by omega
   have hks : (k : Int) < 9223372036854775807 := by have := HS.out; omega
   have HN := Lib.hid (HST.out k hl)
   have hb := (s[k]).toNat_lt
   generalize Fr.reg Fr.ones (s.data.toList.take k) = R at hr HN ⊢
   generalize hbb : s[k] = b at hb HN
   obtain ⟨X, hX⟩ : ∃ X, X = R ^^^ b.toNat := ⟨_, rfl⟩
   have hx : bits .xor .u32 (R : Int) (b.toNat : Int) = (X : Int) := by rw [hX]; exact u32_xor_nat R b.toNat hr (by omega)
   have hXl : X < 4294967296 := by rw [hX]; exact Nat.xor_lt_two_pow (n := 32) hr (by omega)
   rw [← hX, Fr.Tn8] at HN
   have c1 := HC.out X hXl
   have hX1l : Fr.Tn 4 X < 4294967296 := Fr.Tn_lt hXl
   generalize Fr.Tn 4 X = X1 at c1 hX1l HN
   have c2 := HC.out X1 hX1l
   generalize Fr.Tn 4 X1 = X2 at c2 HN
   clear hX
   go_wp2_with fail
   with_reducible refine c1.mono ?_
   rintro e w1 ⟨rfl, h1⟩
   subst w1
   clear c1
   go_wp2_with fail
   with_reducible refine c2.mono ?_
   rintro e w1 ⟨rfl, h1⟩
   subst w1
   clear c2
   go_wp2
   go_round
   case rel => exact ⟨k + 1, by omega, by simp, by rw [HN.out]⟩
   case measure => simp [intOf]; omega
  ·obtain rfl : k = s.size := by omega
   have hki : ¬ (s.size : Int) < (s.size : Int) := by omega
   have hta : s.data.toList.take s.size = s.data.toList := List.take_of_length_le (by rw [Ty.length_data]; exact Nat.le_refl _)
   have HSM : Hid (Fr.sum s.data.toList = Fr.reg Fr.ones (s.data.toList.take s.size) ^^^ 4294967295) := Lib.hid (by rw [hta]; rfl)
   generalize Fr.reg Fr.ones (s.data.toList.take s.size) = R at hr HSM ⊢
   have hx : bits .xor .u32 IntKind.u32.max (R : Int) = ((4294967295 ^^^ R : Nat) : Int) := u32_xor_nat 4294967295 R (by decide) hr
   go_wp2
   go_ret
   exact ⟨by rw [HSM.out, Nat.xor_comm]; rfl, rfl⟩
set_option maxHeartbeats 1000000 in
set_option maxRecDepth 100000 in
theorem Fr.four_c (n : Nat) (hn : n < 4294967296) (w : World) :
 Calls Tryz.prog 53 #[.int .u32 (n : Int)] w fun e w' => e = .returned (.string (Ty.S (Fr.four n))) ∧ Below w.heap.size w w' := by
 have hcv := (Fr.four_buf n hn w).str
 go_enter Tryz.func53, Tryz.ntmps53
 go_wp2
 go_ret
 exact ⟨rfl, (Below.refl _ _).alloc (Nat.le_refl _) _⟩
theorem Fr.or_add {a b k : Nat} (ha : a < 2 ^ k) : a ||| b * 2 ^ k = a + b * 2 ^ k := by
 rw [Nat.or_comm, ← Nat.shiftLeft_eq, Nat.add_comm, Nat.shiftLeft_add_eq_or_of_lt ha]
set_option maxHeartbeats 2000000 in
set_option maxRecDepth 100000 in
theorem Fr.numberOf_c (s : ByteArray) (h : 4 ≤ s.size) (w : World) :
 Calls Tryz.prog 73 #[.string s] w fun e w' => e = .returned (.int .u32 ((Fr.val (s.data.toList.take 4) : Nat) : Int)) ∧ ∃ n, w' = w.drewN n := by
 have hv := Fr.val4 h
 have h0 := (s[0]).toNat_lt
 have h1 := (s[1]).toNat_lt
 have h2 := (s[2]).toNat_lt
 have h3 := (s[3]).toNat_lt
 have z0 : (0 : Int) < (s.size : Int) := by omega
 have z1 : (1 : Int) < (s.size : Int) := by omega
 have z2 : (2 : Int) < (s.size : Int) := by omega
 have z3 : (3 : Int) < (s.size : Int) := by omega
 have n0 : 0 < s.size := by omega
 have n1 : 1 < s.size := by omega
 have n2 : 2 < s.size := by omega
 have n3 : 3 < s.size := by omega
 have o1 : bits .or .u32 ((s[0]).toNat : Int) (((s[1]).toNat : Int) * 256) = (((s[0]).toNat + (s[1]).toNat * 256 : Nat) : Int) := by
  have := u32_or_nat (s[0]).toNat ((s[1]).toNat * 256) (by omega) (by omega)
  rw [Fr.or_add (k := 8) (by omega)] at this
  exact this
 have o2 : bits .or .u32 (((s[0]).toNat + (s[1]).toNat * 256 : Nat) : Int) (((s[2]).toNat : Int) * 65536) = (((s[0]).toNat + (s[1]).toNat * 256 + (s[2]).toNat * 65536 : Nat) : Int) := by
  have := u32_or_nat ((s[0]).toNat + (s[1]).toNat * 256) ((s[2]).toNat * 65536) (by omega) (by omega)
  rw [Fr.or_add (k := 16) (by omega)] at this
  exact this
 have o3 : bits .or .u32 (((s[0]).toNat + (s[1]).toNat * 256 + (s[2]).toNat * 65536 : Nat) : Int) (((s[3]).toNat : Int) * 16777216) = ((Fr.val (s.data.toList.take 4) : Nat) : Int) := by
  have := u32_or_nat ((s[0]).toNat + (s[1]).toNat * 256 + (s[2]).toNat * 65536) ((s[3]).toNat * 16777216) (by omega) (by omega)
  rw [Fr.or_add (k := 24) (by omega), ← hv] at this
  exact this
 generalize Fr.val (s.data.toList.take 4) = V at o3 ⊢
 generalize (s[0]).toNat + (s[1]).toNat * 256 + (s[2]).toNat * 65536 = V2 at o2 o3
 generalize (s[0]).toNat + (s[1]).toNat * 256 = V1 at o1 o2
 clear hv
 go_enter Tryz.func73, Tryz.ntmps73
 go_wp2_with fail
 go_quiet (fail)
 go_wp2
 go_ret
 exact ⟨rfl, _, rfl⟩
end Go.Proofs.YtkhiemkekmdhgaaGreatDoor
namespace Go.Proofs.YtkhiemkekmdhgaaGreatDoor
open Go.RowKit
def Fr.fst (l : List UInt8) : List UInt8 × Nat :=
 if l.length < 4 then ([], 2) else if 1048576 < Fr.val (l.take 4) then ([], 8) else if l.length < Fr.val (l.take 4) + 8 then ([], 2)
 else if Fr.val ((l.drop (4 + Fr.val (l.take 4))).take 4) ≠ Fr.sum ((l.drop 4).take (Fr.val (l.take 4))) then ([], 8) else ((l.drop 4).take (Fr.val (l.take 4)), 0)
theorem Fr.Mid.fst {l : List UInt8} {a : Nat} {L : List Fr.Str} (h : Fr.Mid l a L) :
 ((Fr.fst (l.drop a)).2 = 2 ∧ Fr.scan l = (0, L, a)) ∨ ((Fr.fst (l.drop a)).2 = 8 ∧ Fr.scan l = (8, [], 0)) ∨
 ((Fr.fst (l.drop a)).2 = 0 ∧ (Fr.fst (l.drop a)).1.length ≤ 1048576 ∧ a + ((Fr.fst (l.drop a)).1.length + 8) ≤ l.length ∧ Fr.Mid l (a + ((Fr.fst (l.drop a)).1.length + 8)) (L ++ [(Fr.fst (l.drop a)).1])) := by
 by_cases h4 : (l.drop a).length < 4
 ·have e : Fr.fst (l.drop a) = ([], 2) := if_pos h4
  rw [e]
  exact .inl ⟨rfl, h.short h4⟩
 ·by_cases hb : 1048576 < Fr.val ((l.drop a).take 4)
  ·have e : Fr.fst (l.drop a) = ([], 8) := (if_neg h4).trans (if_pos hb)
   rw [e]
   exact .inr (.inl ⟨rfl, h.big h4 hb⟩)
  ·by_cases ht : (l.drop a).length < Fr.val ((l.drop a).take 4) + 8
   ·have e : Fr.fst (l.drop a) = ([], 2) := (if_neg h4).trans ((if_neg hb).trans (if_pos ht))
    rw [e]
    exact .inl ⟨rfl, h.torn h4 hb ht⟩
   ·by_cases hs : Fr.val (((l.drop a).drop (4 + Fr.val ((l.drop a).take 4))).take 4) = Fr.sum (((l.drop a).drop 4).take (Fr.val ((l.drop a).take 4)))
    ·have e : Fr.fst (l.drop a) = (((l.drop a).drop 4).take (Fr.val ((l.drop a).take 4)), 0) := (if_neg h4).trans ((if_neg hb).trans ((if_neg ht).trans (if_neg (fun h => h hs))))
     have hlen : (l.drop a).length = l.length - a := List.length_drop
     have hk : (((l.drop a).drop 4).take (Fr.val ((l.drop a).take 4))).length = Fr.val ((l.drop a).take 4) := by
      rw [List.length_take, List.length_drop]; omega
     have hn := h.next h4 hb ht hs
     have := h.1
     rw [e]
     refine .inr (.inr ⟨rfl, ?_⟩)
     rw [show (((l.drop a).drop 4).take (Fr.val ((l.drop a).take 4)), (0 : Nat)).1 = ((l.drop a).drop 4).take (Fr.val ((l.drop a).take 4)) from rfl, hk]
     exact ⟨by omega, by omega, hn⟩
    ·have e : Fr.fst (l.drop a) = ([], 8) := (if_neg h4).trans ((if_neg hb).trans ((if_neg ht).trans (if_pos hs)))
     rw [e]
     exact .inr (.inl ⟨rfl, h.wrong h4 hb ht hs⟩)
set_option maxHeartbeats 2000000 in
set_option maxRecDepth 100000 in
theorem Fr.first_c (g : Nat) (s : ByteArray) (hs : s.size ≤ 140737488355328) (w : World) (hT : Fr.Tab w g) :
 Calls Tryz.prog 39 #[.pointer (some ⟨g, 0, none⟩), .string s] w fun e w' => e = .returned (.tuple #[.string (Ty.S (Fr.fst s.data.toList).1), .int .i64 (((Fr.fst s.data.toList).2 : Nat) : Int)]) ∧ ∃ n, w' = w.drewN n := by
 obtain ⟨l, hl⟩ : ∃ l, l = s.data.toList := ⟨_, rfl⟩
 have hll : l.length = s.size := by rw [hl, Ty.length_data]
 rw [← hl]
 have HL := Lib.hid hl
 obtain ⟨R, hR⟩ : ∃ R, R = Fr.fst l := ⟨_, rfl⟩
 rw [← hR]
 have HRR := Lib.hid hR
 have HT := Lib.hid hT
 clear hR hT
 by_cases h4 : s.size < 4
 ·have h4i : (s.size : Int) < 4 := by omega
  have HE : Hid (R = ([], 2)) := Lib.hid (HRR.out.trans (if_pos (by omega)))
  clear hl hll h4
  go_enter Tryz.func39, Tryz.ntmps39
  go_wp2
  go_ret2
  exact ⟨by rw [HE.out]; rfl, 0, rfl⟩
 ·have h4i : ¬ (s.size : Int) < 4 := by omega
  have cn := Fr.numberOf_c s (by omega) w
  rw [← hl] at cn
  have hN32 : Fr.val (l.take 4) < 4294967296 := by
   have := Fr.val_lt (l.take 4)
   rw [List.length_take, Nat.min_eq_left (by omega)] at this
   exact this
  have FB : Hid (1048576 < Fr.val (l.take 4) → R = ([], 8)) := Lib.hid fun h => HRR.out.trans ((if_neg (by omega)).trans (if_pos h))
  have FT : Hid (¬ 1048576 < Fr.val (l.take 4) → s.size < Fr.val (l.take 4) + 8 → R = ([], 2)) := Lib.hid fun h h2 => HRR.out.trans ((if_neg (by omega)).trans ((if_neg h).trans (if_pos (by omega))))
  have FW : Hid (¬ 1048576 < Fr.val (l.take 4) → ¬ s.size < Fr.val (l.take 4) + 8 → Fr.val ((l.drop (4 + Fr.val (l.take 4))).take 4) ≠ Fr.sum ((l.drop 4).take (Fr.val (l.take 4))) → R = ([], 8)) := Lib.hid fun h h2 h3 => HRR.out.trans ((if_neg (by omega)).trans ((if_neg h).trans ((if_neg (by omega)).trans (if_pos h3))))
  have FN : Hid (¬ 1048576 < Fr.val (l.take 4) → ¬ s.size < Fr.val (l.take 4) + 8 → Fr.val ((l.drop (4 + Fr.val (l.take 4))).take 4) = Fr.sum ((l.drop 4).take (Fr.val (l.take 4))) → R = ((l.drop 4).take (Fr.val (l.take 4)), 0)) := Lib.hid fun h h2 h3 => HRR.out.trans ((if_neg (by omega)).trans ((if_neg h).trans ((if_neg (by omega)).trans (if_neg (fun hh => hh h3)))))
  generalize Fr.val (l.take 4) = N at cn hN32 FB FT FW FN
  clear hl h4
  go_enter Tryz.func39, Tryz.ntmps39
  go_wp2_with fail
  with_reducible refine cn.mono ?_
  rintro e w1 ⟨rfl, n1, hw1⟩
  have HT1 : Hid (Fr.Tab w1 g) := Lib.hid (Fr.Tab.kept HT.out (by rw [hw1]; exact Bt.drewN_below w n1))
  have HW1 := Lib.hid hw1
  clear hw1 cn HT
  by_cases hb : 1048576 < N
  ·have hbi : (1048576 : Int) < (N : Int) := by omega
   have HE := Lib.hid (FB.out hb)
   clear hb FT FW FN hll
   go_wp2
   go_ret2
   exact ⟨by rw [HE.out]; rfl, n1, HW1.out⟩
  ·have hbi : ¬ (1048576 : Int) < (N : Int) := by omega
   by_cases ht : s.size < N + 8
   ·have hti : (s.size : Int) < 4 + (N : Int) + 4 := by omega
    have HE := Lib.hid (FT.out hb (by omega))
    clear hb ht FW FN FB hll
    go_wp2
    go_ret2
    exact ⟨by rw [HE.out]; rfl, n1, HW1.out⟩
   ·have hti : ¬ (s.size : Int) < 4 + (N : Int) + 4 := by omega
    have hT : s.extract 4 (4 + N) = Ty.S ((l.drop 4).take N) := by rw [Fr.ext_at, HL.out, Nat.add_sub_cancel_left]
    have hY : s.extract (4 + N) s.size = Ty.S (l.drop (4 + N)) := by
     rw [Fr.ext_at, HL.out, List.take_of_length_le (by rw [List.length_drop, Ty.length_data]; omega)]
    have hTs : (Ty.S ((l.drop 4).take N)).size ≤ 1048576 := by rw [Ty.size_S, List.length_take]; omega
    have hYs : 4 ≤ (Ty.S (l.drop (4 + N))).size := by rw [Ty.size_S, List.length_drop]; omega
    have C1 : Hid (∀ m, Calls Tryz.prog 74 #[.pointer (some ⟨g, 0, none⟩), .string (Ty.S ((l.drop 4).take N))] (w1.drewN m) fun e w' => e = .returned (.int .u32 ((Fr.sum ((l.drop 4).take N) : Nat) : Int)) ∧ w' = w1.drewN m) := Lib.hid fun m => by
     have := Fr.tsum_c g (Ty.S ((l.drop 4).take N)) (by omega) (w1.drewN m) (Fr.Tab.kept HT1.out (Bt.drewN_below w1 m))
     rwa [Ty.data_S] at this
    have C2 : Hid (∀ m, Calls Tryz.prog 73 #[.string (Ty.S (l.drop (4 + N)))] (w1.drewN m) fun e w' => e = .returned (.int .u32 ((Fr.val ((l.drop (4 + N)).take 4) : Nat) : Int)) ∧ ∃ n, w' = (w1.drewN m).drewN n) := Lib.hid fun m => by
     have := Fr.numberOf_c (Ty.S (l.drop (4 + N))) hYs (w1.drewN m)
     rwa [Ty.data_S] at this
    have FW := Lib.hid (FW.out hb ht)
    have FN := Lib.hid (FN.out hb ht)
    generalize Fr.val ((l.drop (4 + N)).take 4) = V at C2 FW FN
    generalize Fr.sum ((l.drop 4).take N) = M at C1 FW FN
    generalize (l.drop 4).take N = K at hT hTs C1 FN
    generalize Ty.S (l.drop (4 + N)) = Y at hY hYs C2
    obtain ⟨T, hTT⟩ : ∃ T, T = Ty.S K := ⟨_, rfl⟩
    rw [← hTT] at hT hTs C1
    have HTT := Lib.hid hTT
    have t2 : (4 + (N : Int)).toNat = 4 + N := by omega
    have hN2 : N + 8 ≤ s.size := by omega
    have hN2i : (4 + (N : Int)) ≤ (s.size : Int) := by omega
    have hN4i : (4 : Int) ≤ 4 + (N : Int) := by omega
    clear hTT hb ht hll FB FT
    go_wp2_with fail
    go_quiet (first | (go_at_call 74; exact Calls.quiet_of_same (C1.out _)) | (go_at_call 73; exact Calls.quiet_of (C2.out _)))
    by_cases hv : V = M
    ·have hvi : ((M : Nat) : Int) = ((V : Nat) : Int) := by rw [hv]
     have HE := Lib.hid (FN.out hv)
     clear FW FN hv
     go_wp2
     go_ret2
     refine ⟨by rw [HE.out, HTT.out]; rfl, n1 + nq, ?_⟩
     rw [HW1.out]
     exact World.drewN_drewN _ _ _
    ·have hvi : ¬ ((M : Nat) : Int) = ((V : Nat) : Int) := by omega
     have HE := Lib.hid (FW.out hv)
     clear FW FN hv
     go_wp2
     go_ret2
     refine ⟨by rw [HE.out]; rfl, n1 + nq, ?_⟩
     rw [HW1.out]
     exact World.drewN_drewN _ _ _
end Go.Proofs.YtkhiemkekmdhgaaGreatDoor
namespace Go.Proofs.YtkhiemkekmdhgaaGreatDoor
open Go.RowKit
def Fr.W (w : World) : Prop := w = w
theorem Fr.W.below {w w' : World} (_ : Fr.W w) (_ : Below w.heap.size w w') : Fr.W w' := rfl
set_option maxHeartbeats 1000000 in
set_option maxRecDepth 100000 in
theorem Fr.sum_c (s : ByteArray) (hs : s.size ≤ 140737488355328) (w : World) (_ : Fr.W w) :
 Calls Tryz.prog 54 #[.string s] w fun e w' => e = .returned (.int .u32 ((Fr.sum s.data.toList : Nat) : Int)) ∧ Below w.heap.size w w' := by
 have c1 := Fr.steps_c w
 have C2 : Hid (∀ g wz, Fr.Tab wz g → Calls Tryz.prog 74 #[.pointer (some ⟨g, 0, none⟩), .string s] wz fun e w' => e = .returned (.int .u32 ((Fr.sum s.data.toList : Nat) : Int)) ∧ w' = wz) := Lib.hid fun g wz h => Fr.tsum_c g s hs wz h
 generalize Fr.sum s.data.toList = M at C2 ⊢
 clear hs
 go_enter Tryz.func54, Tryz.ntmps54
 go_wp2_with fail
 with_reducible refine c1.mono ?_
 rintro e w1 ⟨g, rfl, hT, g1⟩
 have c2 := C2.out g w1 hT
 have HB := Lib.hid g1
 clear c1 C2 hT g1
 go_wp2_with fail
 with_reducible refine c2.mono ?_
 rintro e w2 ⟨rfl, h2⟩
 subst w2
 clear c2
 go_wp2
 go_ret
 exact ⟨rfl, HB.out⟩
set_option maxHeartbeats 2000000 in
set_option maxRecDepth 100000 in
theorem Fr.write_c (s : ByteArray) (hs : s.size ≤ 140737488355328) (w : World) (_ : Fr.W w) :
 Calls Tryz.prog 26 #[.string s] w fun e w' => e = .returned (.string (Ty.S (Fr.frm s.data.toList))) ∧ Below w.heap.size w w' := by
 have hN : s.size % 4294967296 < 4294967296 := Nat.mod_lt _ (by decide)
 have hww : IntKind.u32.wrap (s.size : Int) = ((s.size % 4294967296 : Nat) : Int) := by rw [IntKind.wrap_u32]; omega
 have c1 := fun wz => Fr.four_c (s.size % 4294967296) hN wz
 have c2 := fun wz => Fr.sum_c s hs wz (by rfl)
 have c3 := fun wz => Fr.four_c (Fr.sum s.data.toList) (Fr.sum_lt _) wz
 have HF : Hid (Ty.S (Fr.frm s.data.toList) = (Ty.S (Fr.four (s.size % 4294967296)) ++ s) ++ Ty.S (Fr.four (Fr.sum s.data.toList))) := Lib.hid (by
  unfold Fr.frm
  rw [Fr.four_mod, Ty.length_data]
  conv => rhs; lhs; rhs; rw [← Ty.S_data s]
  rw [Fr.S_add, Fr.S_add, List.append_assoc])
 have e1 : (Ty.S (Fr.four (s.size % 4294967296))).size = 4 := rfl
 have e3 : (Ty.S (Fr.four (Fr.sum s.data.toList))).size = 4 := rfl
 obtain ⟨A, hA⟩ : ∃ A, A = Ty.S (Fr.four (s.size % 4294967296)) := ⟨_, rfl⟩
 obtain ⟨B, hB⟩ : ∃ B, B = Ty.S (Fr.four (Fr.sum s.data.toList)) := ⟨_, rfl⟩
 rw [← hA] at c1 HF e1
 rw [← hB] at c3 HF e3
 generalize Fr.sum s.data.toList = M at c2 c3
 generalize s.size % 4294967296 = N at c1 hww
 have n1 : ¬ 9223372036854775807 < A.size + s.size := by omega
 have n2 : ¬ 9223372036854775807 < A.size + s.size + B.size := by omega
 clear hA hB e1 e3 hN
 go_enter Tryz.func26, Tryz.ntmps26
 go_wp2_with fail
 with_reducible refine (c1 _).mono ?_
 rintro e w1 ⟨rfl, g1⟩
 have HB1 := Lib.hid g1
 clear g1 c1
 go_wp2_with fail
 with_reducible refine (c2 _).mono ?_
 rintro e w2 ⟨rfl, g2⟩
 have HB2 := Lib.hid (HB1.out.trans (g2.mono HB1.out.size))
 clear c2 g2 HB1
 go_wp2_with fail
 with_reducible refine (c3 _).mono ?_
 rintro e w3 ⟨rfl, g3⟩
 have HB3 := Lib.hid (HB2.out.trans (g3.mono HB2.out.size))
 clear g3 c3
 go_wp2
 go_ret
 exact ⟨by rw [HF.out]; rfl, HB3.out⟩
set_option maxHeartbeats 4000000 in
set_option maxRecDepth 100000 in
theorem Fr.scan_c (s : ByteArray) (hs : s.size ≤ 70368744177664) (w : World) (_ : Fr.W w) :
 Calls Tryz.prog 20 #[.string s] w (Fr.Got w (Fr.scan s.data.toList)) := by
 obtain ⟨l, hl⟩ : ∃ l, l = s.data.toList := ⟨_, rfl⟩
 have hll : l.length = s.size := by rw [hl, Ty.length_data]
 rw [← hl]
 have HL := Lib.hid hl
 have HLL := Lib.hid hll
 have HM0 := Lib.hid (Fr.Mid.start l)
 obtain ⟨R, hR⟩ : ∃ R, R = Fr.scan l := ⟨_, rfl⟩
 rw [← hR]
 have HRR := Lib.hid hR
 have c1 := Fr.steps_c w
 have CF : Hid (∀ g (t : ByteArray) wz, t.size ≤ 140737488355328 → Fr.Tab wz g → Calls Tryz.prog 39 #[.pointer (some ⟨g, 0, none⟩), .string t] wz fun e w' => e = .returned (.tuple #[.string (Ty.S (Fr.fst t.data.toList).1), .int .i64 (((Fr.fst t.data.toList).2 : Nat) : Int)]) ∧ ∃ n, w' = wz.drewN n) := Lib.hid fun g t wz h h2 => Fr.first_c g t h wz h2
 clear hR hl hll
 go_enter Tryz.func20, Tryz.ntmps20
 go_wp2_with fail
 with_reducible refine c1.mono ?_
 rintro e w0 ⟨g, rfl, hT0, g0⟩
 have HT0 := Lib.hid hT0
 have HB0 := Lib.hid g0
 clear c1 hT0 g0
 go_wp2
 go_loopw [5, 6, 8, 9] (fun ov av _ _ wr => ∃ (a : Nat) (L : List Fr.Str), av = .int .i64 a ∧ Fr.Mid l a L ∧ Tx.Own w0.heap.size wr ov L ∧ Below w0.heap.size w0 wr) (fun _ av _ _ _ => s.size - (intOf av).toNat)
 case atStart => exact ⟨0, [], rfl, HM0.out, Tx.Own.nil _ _, Below.refl _ _⟩
 case round =>
  obtain ⟨a, L, rfl, hM, hO, hb⟩ := hrel
  have hT := HT0.out.kept hb
  have has : a ≤ s.size := by have := hM.1; rw [HLL.out] at this; exact this
  have hL8 : 8 * L.length ≤ a := hM.2.1
  have hF := hM.fst
  have HO := Lib.hid hO
  have HB := Lib.hid hb
  have hws := hb.size
  have ha0 : (0 : Int) ≤ (a : Int) := by omega
  have hai : (a : Int) ≤ (s.size : Int) := by omega
  have hx : s.extract a s.size = Ty.S (l.drop a) := by
   rw [Fr.ext_at, HL.out, List.take_of_length_le (by rw [List.length_drop, Ty.length_data]; omega)]
  have cf := CF.out g (Ty.S (l.drop a)) wr (by rw [Ty.size_S, List.length_drop, HLL.out]; omega) hT
  rw [Ty.data_S] at cf
  rw [HLL.out] at hF
  generalize Ty.S (l.drop a) = X at hx cf
  obtain ⟨F, hFF⟩ : ∃ F, F = Fr.fst (l.drop a) := ⟨_, rfl⟩
  rw [← hFF] at cf hF
  obtain ⟨K, E⟩ := F
  simp only at cf hF
  have HF := Lib.hid hF
  obtain ⟨T, hTT⟩ : ∃ T, T = Ty.S K := ⟨_, rfl⟩
  rw [← hTT] at cf
  have HTT := Lib.hid hTT
  have hTs : T.size = K.length := by rw [hTT, Ty.size_S]
  clear hM hO hb HM0 hT HT0 hF hFF hTT CF
  go_wp2_with fail
  with_reducible refine cf.mono ?_
  rintro e w1 ⟨rfl, n1, hw1⟩
  have HB1 : Hid (Below w0.heap.size w0 w1) := Lib.hid (by rw [hw1]; exact HB.out.trans ((Bt.drewN_below _ _).mono hws))
  have HO1 : Hid (Tx.Own w0.heap.size w1 u5 L) := Lib.hid (by rw [hw1]; exact Bt.Buf.kept HO.out (Bt.drewN_below _ _))
  clear hw1 cf HO HB
  rcases HF.out with ⟨rfl, hS⟩ | ⟨rfl, hS⟩ | ⟨rfl, hK, hKs, hM⟩
  ·have HE := Lib.hid (HRR.out.trans hS)
   have HAT := Lib.hid (Tx.Own.at HO1.out)
   clear hS HF HTT hTs
   go_wp2
   go_ret3
   exact Fr.Got.good HE.out HAT.out (HB0.out.trans (HB1.out.mono HB0.out.size))
  ·have HE := Lib.hid (HRR.out.trans hS)
   clear hS HF HTT hTs
   go_wp2
   go_ret3
   exact Fr.Got.bad HE.out (HB0.out.trans (HB1.out.mono HB0.out.size))
  ·have HM := Lib.hid hM
   have cc := Tx.clone_c T w1 (by omega)
   have hLL : (L.length + 1) * 16 ≤ 140737488355328 := by omega
   clear hM HF
   go_wp2_with fail
   with_reducible refine cc.mono ?_
   rintro e w2 ⟨rfl, g2⟩
   have HB2 : Hid (Below w0.heap.size w0 w2) := Lib.hid (HB1.out.trans (g2.mono HB1.out.size))
   have hO2 : Tx.Own w0.heap.size w2 u5 L := Bt.Buf.kept HO1.out g2
   have hws2 := HB2.out.size
   clear cc g2 HB1 HO1
   go_wp2_with (at_builtin; refine Bt.wpList_append_one 9 36 (.string ⟨#[]⟩) 16 Tryz.underlying36 Tx.infoS rfl (hO2.pre K) hws2 hLL (by omega) (.tmp 23) (.tmp 26) _ rfl rfl rfl rfl rfl ?_; intro v3 w3 h3 g3)
   have HO3 := Lib.hid (Tx.Own.post (h3 (by rw [← Tx.sv_snoc, ← HTT.out])))
   have HB3 := Lib.hid (Tx.grew_below HB2.out hO2 g3)
   clear h3 g3 hO2 hLL
   go_wp2
   go_roundw
   case rel => exact ⟨a + (K.length + 8), L ++ [K], by congr 1, HM.out, HO3.out, HB3.out⟩
   case measure => simp [intOf]; omega
end Go.Proofs.YtkhiemkekmdhgaaGreatDoor
namespace Go.Proofs.YtkhiemkekmdhgaaGreatDoor
open Go.RowKit
set_option maxHeartbeats 4000000 in
set_option maxRecDepth 100000 in
theorem Jn.write_c (v u : Value) (s : List Kn.C) (d : Dd.D) (w : World) (hT : Jn.T w) (hs : Dd.Cols w v s) (hu : Kn.Vals w u d.row) (hi : ∀ x ∈ d.row, Ty.I64 x.n) :
 Calls Tryz.prog 10 #[v, .agg #[.bool d.gone, u]] w fun e w' => e = .returned (Jn.wV s d) ∧ Below w.heap.size w w' := by
 obtain ⟨wb, hwb⟩ : ∃ wb, wb = w.alloc (.cells #[.bool d.gone, u] 26) := ⟨_, rfl⟩
 have hb : Below w.heap.size w wb := by rw [hwb]; exact (Below.refl _ w).alloc (Nat.le_refl _) _
 have d0 : wb.cell? ⟨w.heap.size, 0, none⟩ = some (.bool d.gone) := by rw [hwb]; exact Kn.cell_new w _ _ 0 _ rfl
 have d1 : wb.cell? ⟨w.heap.size, 1, none⟩ = some u := by rw [hwb]; exact Kn.cell_new w _ _ 1 _ rfl
 have CW := Lib.hid (Dd.write_c v u s d wb (hT.2.1.below hb hT.2.1.two) (hs.later hb) (hu.later hb) hi)
 have HB := Lib.hid hb
 obtain ⟨a, c, rfl, -⟩ := id hs.1
 obtain ⟨ua, uc, rfl, -⟩ := id hu
 by_cases h0 : Dd.fitE s d = 0
 ·have hlen := Jn.enc_len h0
  rw [Jn.dwV_good h0] at CW
  rw [Jn.wV_good h0]
  have CF := Lib.hid fun (W : World) => Fr.write_c (Ty.S (Dd.enc s d)) (by rw [Ty.size_S]; omega) W rfl
  rw [Ty.data_S] at CF
  generalize Dd.enc s d = en at CW CF
  generalize Fr.frm en = fr at CF ⊢
  generalize d.gone = gd at CW d0 hwb
  generalize d.row.length = rl at CW d1 hwb
  clear h0 hs hu hi hb hlen hT
  go_enter Tryz.func10, Tryz.ntmps10
  go_wp2_with fail
  rw [← hwb]
  refine (CW.out).mono ?_
  rintro e w1 ⟨rfl, g1⟩
  have HG1 := Lib.hid (HB.out.trans (g1.mono HB.out.size))
  clear g1 d0 d1
  go_wp2_with fail
  refine (CF.out w1).mono ?_
  rintro e w2 ⟨rfl, g2⟩
  have HG2 := Lib.hid (HG1.out.trans (g2.mono HG1.out.size))
  clear g2
  go_wp2
  go_ret2
  exact ⟨rfl, HG2.out⟩
 ·rw [Dd.wV_bad h0] at CW
  rw [Jn.wV_bad h0]
  have hne : (Dd.fitE s d != 0) = true := by rw [bne_iff_ne]; exact h0
  generalize Dd.fitE s d = E at CW hne ⊢
  generalize d.gone = gd at CW d0 hwb
  generalize d.row.length = rl at CW d1 hwb
  clear h0 hs hu hi hb hT
  go_enter Tryz.func10, Tryz.ntmps10
  go_wp2_with fail
  rw [← hwb]
  refine (CW.out).mono ?_
  rintro e w1 ⟨rfl, g1⟩
  have HG1 := Lib.hid (HB.out.trans (g1.mono HB.out.size))
  clear g1 d0 d1
  go_wp2
  go_ret2
  exact ⟨rfl, HG1.out⟩
end Go.Proofs.YtkhiemkekmdhgaaGreatDoor
namespace Go.Proofs.YtkhiemkekmdhgaaGreatDoor
open Go.RowKit
set_option maxHeartbeats 8000000 in
set_option maxRecDepth 100000 in
theorem Jn.read_o (v : Value) (s : List Kn.C) (t : ByteArray) (w : World) (hT : Jn.T w) (hs : Dd.Cols w v s) (ht : t.size ≤ 4194304) :
 Calls Tryz.prog 8 #[v, .string t] w (Jn.GotR w (Jn.rd s t.data.toList)) := by
 have HS := Lib.hid hs
 obtain ⟨l, hl⟩ : ∃ l, l = t.data.toList := ⟨_, rfl⟩
 have hll : l.length = t.size := by rw [hl, Ty.length_data]
 have CSC := Lib.hid fun (W : World) => Fr.scan_c t (by omega) W rfl
 rw [← hl] at CSC ⊢
 have CR := Lib.hid fun (W : World) (g : Below w.heap.size w W) => Kn.right_c v s W (hs.later g).1
 have HTB : Hid (∀ (i : Nat) (x : Fr.Str), (Fr.scan l).2.1[i]? = some x → x.length ≤ 1048576) := Lib.hid fun i x hx => Jn.scan_txt l x (List.mem_of_getElem? hx)
 have HLN : Hid ((Fr.scan l).2.1.length ≤ 524288) := Lib.hid (by have := Jn.scan_n l; omega)
 have CD := Lib.hid fun (W : World) (x : Fr.Str) (g : Below w.heap.size w W) (hx : x.length ≤ 1048576) => Dd.read_c v s (Ty.S x) W (hT.below g).2.1 (hs.later g) (by rw [Ty.size_S]; omega)
 have HB4 : Hid (Kn.right s = false → ∀ W, Below w.heap.size w W → Jn.GotR w (Jn.rd s l) (.returned (.tuple #[.slice none 0 0, .int .i64 4])) W) := Lib.hid fun h W g => Jn.GotR.bad (by unfold Jn.rd; rw [if_pos h]) rfl g
 have HBS : Hid (Kn.right s = true → (Fr.scan l).1 ≠ 0 → ∀ W, Below w.heap.size w W → Jn.GotR w (Jn.rd s l) (.returned (.tuple #[.slice none 0 0, .int .i64 (((Fr.scan l).1 : Nat) : Int)])) W) := Lib.hid fun h h2 W g => Jn.GotR.bad (by unfold Jn.rd; rw [if_neg (by rw [h]; decide), if_pos h2]) rfl g
 have HB8 : Hid (Kn.right s = true → (Fr.scan l).1 = 0 → Jn.rds s (Fr.scan l).2.1 = none → ∀ W, Below w.heap.size w W → Jn.GotR w (Jn.rd s l) (.returned (.tuple #[.slice none 0 0, .int .i64 8])) W) := Lib.hid fun h h2 h3 W g => Jn.GotR.bad (by unfold Jn.rd; rw [if_neg (by rw [h]; decide), if_neg (by rw [h2]; decide), h3]) rfl g
 have HGD : Hid (Kn.right s = true → (Fr.scan l).1 = 0 → ∀ L, Jn.rds s (Fr.scan l).2.1 = some L → ∀ W u Es, Jn.Ow w.heap.size W u Es L → Below w.heap.size w W → Jn.GotR w (Jn.rd s l) (.returned (.tuple #[u, .int .i64 0])) W) := Lib.hid fun h h2 L h3 W u Es ho g => Jn.GotR.good (by unfold Jn.rd; rw [if_neg (by rw [h]; decide), if_neg (by rw [h2]; decide), h3]) ho g
 generalize Jn.rd s l = RES at HB4 HBS HB8 HGD ⊢
 obtain ⟨a, c, rfl, -⟩ := id hs.1
 clear hs hT ht hl hll
 go_enter Tryz.func8, Tryz.ntmps8
 go_wp2_with fail
 refine (CR.out w (Below.refl _ _)).mono ?_
 rintro e w1 ⟨rfl, g1⟩
 have HG1 := Lib.hid g1
 clear g1
 generalize hrt : Kn.right s = rt at *
 cases rt
 ·have HF := Lib.hid (HB4.out rfl w1 HG1.out)
  go_wp2
  go_ret2
  exact HF.out
 ·have HFL := Lib.hid (HBS.out rfl)
  have HF8 := Lib.hid (HB8.out rfl)
  have HFG := Lib.hid (HGD.out rfl)
  clear HB4 HBS HB8 HGD
  go_wp2_with fail
  refine (CSC.out w1).mono ?_
  rintro e w2 ⟨x, rfl, hx, g2⟩
  have HX := Lib.hid hx
  have HG2 := Lib.hid (HG1.out.trans (g2.mono HG1.out.size))
  obtain ⟨xa, xc, rfl, -, -, hx9⟩ := hx
  have H9 := Lib.hid hx9
  clear g2 CSC hx9
  generalize (Fr.scan l).2.2 = ct
  generalize (Fr.scan l).1 = er at HFL HF8 HFG ⊢
  generalize (Fr.scan l).2.1 = TS at HTB HLN HX HF8 HFG H9 ⊢
  by_cases h0 : er = 0
  ·subst h0
   have HFX := Lib.hid (HF8.out rfl)
   have HFY := Lib.hid (HFG.out rfl)
   clear HF8 HFG
   have hln := HLN.out
   have hl0 : (TS.length : Int) ≤ 524288 := by omega
   simp only [Int.cast_ofNat_Int]
   go_wp2_with fail
   go_loopw [9, 28] (fun out i wr => ∃ (k : Nat) (Es : List Jn.Y) (L : List Dd.D), k ≤ TS.length ∧ i = .int .i64 k ∧ Jn.rds s (TS.take k) = some L ∧ Jn.Ow w.heap.size wr out Es L ∧ Hid (∀ k, out.ownBlock = some k → w2.heap.size ≤ k) ∧ Below w2.heap.size w2 wr ∧ Below w.heap.size w wr) (fun _ i _ => TS.length - (intOf i).toNat)
   case atStart => exact ⟨0, [], [], Nat.zero_le _, rfl, rfl, Jn.Ow.nil _ _, Lib.hid (fun k hk => by simp [Value.ownBlock] at hk), Below.refl _ _, HG2.out⟩
   case round =>
    obtain ⟨k, Es, L, hk, rfl, hr, hO, HOB, hB2, hB⟩ := hrel
    have HB := Lib.hid hB
    have HB2 := Lib.hid hB2
    have HO := Lib.hid hO
    have HR := Lib.hid hr
    have hk0 : (0 : Int) ≤ (k : Int) := by omega
    by_cases hkl : k < TS.length
    ·rcases H9.out with ⟨h9, -⟩ | ⟨b, o, rfl, hlt, hc⟩
     ·rw [h9] at hkl; simp at hkl
     have c0 := (hB2.cell (p := ⟨b, o + k, none⟩) hlt).trans (hc k hkl)
     have hx := List.getElem?_eq_getElem hkl
     rw [Tx.sv, List.getD_eq_getElem?_getD, hx, Option.getD_some] at c0
     generalize TS[k] = t1 at hx c0
     have CDD := Lib.hid (CD.out wr t1 hB (HTB.out k t1 hx))
     rw [Ty.data_S] at CDD
     have HNX := Lib.hid (Jn.rds_take hx hr)
     have HNE := Lib.hid (Jn.rd_ne (s := s) (t := t1))
     have HLE : Hid (Es.length ≤ 524288) := Lib.hid (by rw [hO.len, Jn.rds_len hr, List.length_take]; have := HLN.out; omega)
     have hki : (k : Int) < (TS.length : Int) := by omega
     have HKL := Lib.hid hkl
     generalize Dd.rd s t1 = D9 at CDD HNX HNE
     clear hx hc hlt hkl hk hr hO hB2 hB
     go_wp2_with fail
     refine (CDD.out).mono ?_
     rintro e w5 ⟨u, rfl, hu, hf, g5⟩
     obtain ⟨er9, gn9, row9⟩ := D9
     have HU := Lib.hid hu
     have HF5 := Lib.hid hf
     have HG5 := Lib.hid g5
     obtain ⟨ua, uc, rfl, -⟩ := hu
     clear hf g5 c0
     simp only at HNX HNE HU ⊢
     have HBW5 := Lib.hid ((HB2.out.trans (HG5.out.mono HB2.out.size)))
     have HBV5 := Lib.hid ((HB.out.trans (HG5.out.mono HB.out.size)))
     by_cases h9 : er9 = 0
     ·subst h9
      have HN2 := Lib.hid (HNX.out.1 rfl)
      have HNE2 := Lib.hid (HNE.out rfl)
      have hO5 := (HO.out.kept HG5.out).ow
      have hbs : w.heap.size ≤ (w5.alloc (.cells #[.bool gn9, .slice ua row9.length uc] 26)).heap.size := by have := HBV5.out.size; rw [World.size_alloc]; omega
      have hle := HLE.out
      clear HNX HNE
      go_wp2_with (at_builtin; refine Dk.wpList_append1 28 _ 32 Tryz.underlying28 Rn.infoD rfl (by decide) Rn.e2_len Rn.e2_one (gn9, (ua, row9.length, uc)) (World.ownsRow.alloc hO5 _) hbs (by omega) (by omega) (w5.heap.size + 1) (by rw [World.size_alloc]) _ rfl (.tmp 40) (.tmp 42) (by rfl) (by rfl) (by rfl) (by rfl) ?_; intro v6 w6 h6 g6)
      have H6 := Lib.hid (And.intro h6 g6)
      have HA : Hid (Below wr.heap.size wr (w5.alloc (.cells #[.bool gn9, .slice ua row9.length uc] 26))) := Lib.hid (HG5.out.alloc HG5.out.size _)
      have HV : Hid (Kn.Vals (w5.alloc (.cells #[.bool gn9, .slice ua row9.length uc] 26)) (Bk.sv (ua, row9.length, uc)) row9) := Lib.hid (HU.out.later ((Below.refl _ w5).alloc (Nat.le_refl _) _))
      have HS6 := Lib.hid (HO.out.snoc (y := (gn9, (ua, row9.length, uc))) (d := ⟨gn9, row9⟩) HB.out.size HA.out rfl HNE2.out HV.out HF5.out H6.out.1 H6.out.2)
      have HW6 : Hid (Below w2.heap.size w2 w6 ∧ Below w.heap.size w w6) := Lib.hid (by
       have hob := HO.out.ow.lt
       have hba := HO.out.ow.base_le
       refine ⟨(HBW5.out.alloc HBW5.out.size _).trans (H6.out.2.below (HBW5.out.alloc HBW5.out.size _).size fun k hk => ?_), (HBV5.out.alloc HBV5.out.size _).trans (H6.out.2.below hbs hba)⟩
       exact HOB.out k hk)
      have HOB6 : Hid (∀ k, v6.ownBlock = some k → w2.heap.size ≤ k) := Lib.hid fun k hk => by
       rcases H6.out.2.own with e | ⟨j, e, hj⟩
       ·exact HOB.out k (e ▸ hk)
       ·rw [e] at hk
        obtain rfl : j = k := by simpa using hk
        have := HBW5.out.size
        rw [World.size_alloc] at hj
        omega
      clear h6 g6 hO5 hbs hle
      go_roundw
      case rel => exact ⟨k + 1, _, _, HKL.out, by simp, HN2.out, HS6.out, HOB6, HW6.out.1, HW6.out.2⟩
      case measure => (have := HKL.out; simp [intOf]; omega)
     ·have HN8 := Lib.hid fun x => HFX.out (HNX.out.2 h9) (w5.alloc x) (HBV5.out.alloc HBV5.out.size x)
      have hne : ((er9 : Int) != 0) = true := by rw [bne_iff_ne]; omega
      clear HNX HNE h9
      go_wp2
      go_ret2
      exact HN8.out _
    ·obtain rfl : k = TS.length := by omega
     have hki : ¬ (TS.length : Int) < (TS.length : Int) := by omega
     rw [List.take_length] at hr
     have HFN := Lib.hid (HFY.out L hr wr _ Es hO hB)
     clear hk hkl hr hO hB2 hB
     go_wp2
     go_ret2
     exact HFN.out
  ·have hne : ((er : Int) != 0) = true := by rw [bne_iff_ne]; omega
   have HN8 := Lib.hid (HFL.out h0 w2 HG2.out)
   clear h0
   go_wp2
   go_ret2
   exact HN8.out
theorem Jn.GotR.gotP {w w' : World} {r : Nat × List Dd.D} {e : Ending} (h : Jn.GotR w r e w') : Jn.GotP w r e w' := by
 obtain ⟨u, Es, h1, h2, h3⟩ := h
 exact ⟨u, h1, h2.ds, h3⟩
theorem Jn.read_c (v : Value) (s : List Kn.C) (t : ByteArray) (w : World) (hT : Jn.T w) (hs : Dd.Cols w v s) (ht : t.size ≤ 4194304) :
 Calls Tryz.prog 8 #[v, .string t] w (Jn.GotP w (Jn.rd s t.data.toList)) := (Jn.read_o v s t w hT hs ht).mono fun _ _ h => h.gotP
end Go.Proofs.YtkhiemkekmdhgaaGreatDoor
namespace Go.Proofs.YtkhiemkekmdhgaaGreatDoor
open Go Go.RowKit
def Jn.s0 : List Kn.C := [⟨1, false⟩]
def Jn.d0 : Dd.D := ⟨true, [⟨false, 3, ⟨#[]⟩⟩]⟩
theorem Jn.fit0 : Dd.fitE Jn.s0 Jn.d0 = 0 := by
 have hr : Kn.right [⟨1, false⟩] = true := by decide
 unfold Dd.fitE Jn.d0
 simp [hr, Kn.keyE, Jn.s0, Kn.fits]
theorem Jn.enc0 : Dd.enc Jn.s0 Jn.d0 = [1, 6] := by decide
theorem Jn.i0 : ∀ x ∈ Jn.d0.row, Ty.I64 x.n := fun x hx => by
 obtain rfl : x = ⟨false, 3, ⟨#[]⟩⟩ := by simpa [Jn.d0] using hx
 exact ⟨by decide, by decide⟩
theorem Jn.wS0 : Jn.wS Jn.s0 Jn.d0 = Fr.frm [1, 6] := by unfold Jn.wS; rw [if_pos Jn.fit0, Jn.enc0]
theorem Jn.rd0 : Jn.rd Jn.s0 (Fr.frm [1, 6] ++ [1]) = (0, [Jn.d0]) := by
 have hr : Kn.right Jn.s0 = true := by decide
 have e1 : Fr.scan [1] = (0, [], 0) := by rw [Fr.scan_is]; simp
 have e2 : Fr.scan (Fr.frm [1, 6] ++ [1]) = (0, [[1, 6]], 10) := by
  rw [Fr.scan_frm [1, 6] (by decide) [1], e1]
  rfl
 have e3 : Jn.rds Jn.s0 [[1, 6]] = some [Jn.d0] := by
  have := Jn.rds_enc (s := Jn.s0) [Jn.d0] (fun d hd => by obtain rfl : d = Jn.d0 := by simpa using hd
                                                          exact Jn.fit0) (fun d hd => by obtain rfl : d = Jn.d0 := by simpa using hd
                                                                                         exact Jn.i0)
  rwa [List.map_cons, List.map_nil, Jn.enc0] at this
 unfold Jn.rd
 rw [hr, e2]
 simp only [Bool.true_eq_false, if_false, ne_eq, not_true]
 rw [e3]
theorem Jn.name0 : Jn.name [119] 12 = [119, 49, 50] := by
 unfold Jn.name
 rw [if_neg (by decide), show (12 : Int).toNat = 12 from rfl, Lib.decDigits_two (by decide) (by decide)]
 decide
theorem Jn.num0 : Jn.okN [119] [119, 49, 50] = true ∧ Jn.num [119] [119, 49, 50] = 12 := by
 have h := Jn.name_ok (l := [119]) (n := 12) (by decide) (by decide)
 rw [Jn.name0] at h
 exact ⟨h.1, by have := h.2; omega⟩
theorem Jn.col0 (w : World) : Dd.Cols (w.alloc (.cells #[.int .i64 1, .bool false] 50)) (.slice (some ⟨w.heap.size, 0, none⟩) 1 1) Jn.s0 := by
 refine ⟨⟨_, 1, rfl, .inr ⟨w.heap.size, 0, rfl, by simp, by decide, fun i x hx => ?_⟩⟩, fun a l c h => by cases h; exact Nat.le_refl _⟩
 have h0 : i = 0 := by
  have := (List.getElem?_eq_some_iff.1 hx).1
  simp [Jn.s0] at this
  omega
 subst h0
 obtain rfl : (⟨1, false⟩ : Kn.C) = x := by simpa [Jn.s0] using hx
 exact ⟨Kn.cell_new w _ _ 0 _ rfl, Kn.cell_new w _ _ 1 _ rfl⟩
theorem Jn.row0 (w : World) : Kn.Vals (w.alloc (.cells #[.bool false, .int .i64 3, .string ⟨#[]⟩] 43)) (.slice (some ⟨w.heap.size, 0, none⟩) 1 1) Jn.d0.row := by
 have hk := Kn.At.new w ⟨false, 3, ⟨#[]⟩⟩ 43
 refine ⟨⟨_, 1, rfl, .inr ⟨w.heap.size, 0, rfl, by rw [World.size_alloc]; omega, by show 1 ≤ 9223372036854775807; omega, fun i y hy => ?_⟩⟩⟩
 cases i with
 | succ i => simp [Jn.d0] at hy
 | zero =>
   obtain rfl : (⟨false, 3, ⟨#[]⟩⟩ : Kn.V) = y := by simpa [Jn.d0] using hy
   exact hk
set_option maxHeartbeats 4000000 in
set_option maxRecDepth 100000 in
theorem Jn.lives_c (w : World) (hT : Jn.T w) : Calls Tryz.prog 7 #[] w fun e w' => e = .returned (.bool true) ∧ Below w.heap.size w w' := by
 have HT := Lib.hid hT
 clear hT
 have CN := Lib.hid (Jn.number_c ⟨#[119]⟩ ⟨#[119, 49, 50]⟩ w HT.out (by decide) (by decide))
 rw [show (⟨#[119]⟩ : ByteArray).data.toList = [119] from rfl, show (⟨#[119, 49, 50]⟩ : ByteArray).data.toList = [119, 49, 50] from rfl, Jn.num0.1, Jn.num0.2] at CN
 go_enter Tryz.func7, Tryz.ntmps7
 go_wp2_with fail
 refine CN.out.mono ?_
 rintro e w1 ⟨rfl, g1⟩
 have HG1 := Lib.hid g1
 clear CN g1
 go_wp2_with fail
 have CW := Jn.write_c _ (.slice (some ⟨w1.heap.size + 1, 0, none⟩) 1 1) Jn.s0 Jn.d0 ((w1.alloc (.cells #[.int .i64 1, .bool false] 50)).alloc (.cells #[.bool false, .int .i64 3, .string ⟨#[]⟩] 43)) (HT.out.below (((HG1.out.alloc HG1.out.size _)).alloc (by rw [World.size_alloc]; have := HG1.out.size; omega) _)) ((Jn.col0 w1).later ((Below.refl _ _).alloc (Nat.le_refl _) _)) (by have := Jn.row0 (w1.alloc (.cells #[.int .i64 1, .bool false] 50)); rwa [World.size_alloc] at this) Jn.i0
 have HC0 := Lib.hid ((Jn.col0 w1).later ((Below.refl _ _).alloc (Nat.le_refl _) (.cells #[.bool false, .int .i64 3, .string ⟨#[]⟩] 43)))
 have HG2 : Hid (Below w.heap.size w ((w1.alloc (.cells #[.int .i64 1, .bool false] 50)).alloc (.cells #[.bool false, .int .i64 3, .string ⟨#[]⟩] 43))) := Lib.hid (((HG1.out.alloc HG1.out.size _)).alloc (by rw [World.size_alloc]; have := HG1.out.size; omega) _)
 unfold Jn.wV at CW
 rw [Jn.fit0, Jn.wS0, show Jn.d0.gone = true from rfl] at CW
 obtain ⟨T, hTT⟩ : ∃ T, T = Ty.S (Fr.frm [1, 6]) := ⟨_, rfl⟩
 have hfl : (Fr.frm [1, 6]).length = 10 := by decide
 have hTs : T.size = 10 := by rw [hTT]; exact hfl
 have hcat : (T ++ (⟨#[1]⟩ : ByteArray)).data.toList = Fr.frm [1, 6] ++ [1] := by rw [hTT, ByteArray.data_append]; simp [Ty.S]
 have hcs : (T ++ (⟨#[1]⟩ : ByteArray)).size ≤ 4194304 := by rw [ByteArray.size_append, hTs]; decide
 have HCAT := Lib.hid hcat
 have HCS := Lib.hid hcs
 rw [← hTT] at CW
 clear hTT hfl hcat hcs HG1
 refine CW.mono ?_
 rintro e w3 ⟨rfl, g3⟩
 have HC3 := Lib.hid (HC0.out.later g3)
 have HG3 := Lib.hid (HG2.out.trans (g3.mono HG2.out.size))
 clear CW g3 HC0 HG2
 have hTi : (T.size : Int) = 10 := by omega
 generalize w1.heap.size = q at HC3 ⊢
 go_wp2_with fail
 have CR := Jn.read_c _ Jn.s0 (T ++ ⟨#[1]⟩) w3 (HT.out.below HG3.out) HC3.out HCS.out
 rw [HCAT.out, Jn.rd0] at CR
 refine CR.mono ?_
 rintro e w4 ⟨u, rfl, hd, g4⟩
 have HG4 := Lib.hid (HG3.out.trans (g4.mono HG3.out.size))
 obtain ⟨a, c, rfl, _, _, h⟩ := hd
 simp only [List.length_cons, List.length_nil, Nat.reduceAdd] at ⊢
 rcases h with h | ⟨b, o, rfl, hlt, hc⟩
 ·cases h
 have c0 : w4.cell? ⟨b, o, none⟩ = some (.bool true) := by
  obtain ⟨_, c0, _⟩ := hc 0 _ rfl
  simpa [Jn.d0] using c0
 have CM := Jn.name_c ⟨#[119]⟩ 12 w4 (HT.out.below HG4.out) (by decide) (by decide) (by decide)
 rw [show (⟨#[119]⟩ : ByteArray).data.toList = [119] from rfl, Jn.name0, show Ty.S [119, 49, 50] = (⟨#[119, 49, 50]⟩ : ByteArray) from rfl] at CM
 have HC4 : Hid (∀ w', Below w4.heap.size w4 w' → w'.cell? ⟨b, o, none⟩ = some (.bool true)) := Lib.hid fun w' g => (g.cell (World.block_lt_of_cell? w4 _ c0)).trans c0
 clear CR g4 hlt hc HC3 HCAT HCS HG3 c0
 go_wp2_with fail
 refine CM.mono ?_
 rintro e w5 ⟨rfl, g5⟩
 have HG5 := Lib.hid (HG4.out.trans (g5.mono HG4.out.size))
 have c0 := HC4.out _ g5
 clear CM g5 HG4 HC4
 go_wp2_with fail
 go_ret
 exact ⟨rfl, HG5.out⟩
end Go.Proofs.YtkhiemkekmdhgaaGreatDoor
namespace Go.Proofs.YtkhiemkekmdhgaaGreatDoor
open Go.RowKit
theorem Bk.same_self (d : Dd.D) : Dd.same d d = true := by
 unfold Dd.same
 rw [Kn.sameR_self]
 simp
set_option maxHeartbeats 4000000 in
set_option maxRecDepth 100000 in
theorem Bk.rsame_c (u v : Value) (L : List Dd.D) (w : World) (hu : Bk.Ds w u L) (hv : Bk.Ds w v L) :
 Calls Tryz.prog 12 #[u, v] w fun e w' => e = .returned (.bool true) ∧ Below w.heap.size w w' := by
 obtain ⟨a, c, rfl, hlc, hcm, h⟩ := hu
 obtain ⟨a2, c2, rfl, hlc2, hcm2, h2⟩ := hv
 have HH := Lib.hid h
 have HH2 := Lib.hid h2
 clear h h2
 have hz : ((L.length : Int) != (L.length : Int)) = false := by simp
 go_enter Tryz.func12, Tryz.ntmps12
 go_wp2_with fail
 go_loopw [5] (fun i wr => ∃ k : Nat, k ≤ L.length ∧ i = .int .i64 k ∧ Below w.heap.size w wr) (fun i _ => L.length - (intOf i).toNat)
 case atStart => exact ⟨0, Nat.zero_le _, rfl, Below.refl _ _⟩
 case round =>
  obtain ⟨k, hk, rfl, hg⟩ := hrel
  have HG := Lib.hid hg
  by_cases hkl : k < L.length
  ·rcases HH.out with rfl | ⟨b, o, rfl, hlt, hc⟩
   ·simp at hkl
   ·rcases HH2.out with rfl | ⟨b2, o2, rfl, hlt2, hc2⟩
    ·simp at hkl
    ·have hx := List.getElem?_eq_getElem hkl
     generalize L[k] = d at hx
     obtain ⟨u0, c0, c1, hu⟩ := hc k d hx
     obtain ⟨u2, d0, d1, hu2⟩ := hc2 k d hx
     have hu := hu.later hg
     have hu2 := hu2.later hg
     have c0 := (hg.cell (p := ⟨b, o + k * 2, none⟩) hlt).trans c0
     have c1 := (hg.cell (p := ⟨b, o + k * 2 + 1, none⟩) hlt).trans c1
     have d0 := (hg.cell (p := ⟨b2, o2 + k * 2, none⟩) hlt2).trans d0
     have d1 := (hg.cell (p := ⟨b2, o2 + k * 2 + 1, none⟩) hlt2).trans d1
     have dk : (k : Int) < (L.length : Int) := by omega
     have dk0 : (0 : Int) ≤ (k : Int) := by omega
     have HK := Lib.hid hkl
     have hm : L.length ≤ 9223372036854775807 := Nat.le_trans hlc hcm
     have C0 := fun d os => cell_regrown c0 d os
     have C1 := fun d os => cell_regrown c1 d os
     have D0 := fun d os => cell_regrown d0 d os
     have D1 := fun d os => cell_regrown d1 d os
     have CS : Hid (∀ p : Regrown, _) := Lib.hid fun p : Regrown => Calls.regrown_of (d := p.d) (os := p.os) (w := wr) (Dd.rsame_c u0 u2 d d _ (hu.later (below_regrown wr p.d p.os)) (hu2.later (below_regrown wr p.d p.os)))
     rw [Bk.same_self] at CS
     obtain ⟨ua, uc, e1, -⟩ := hu
     obtain ⟨ub, ud, e2, -⟩ := hu2
     have HC := Lib.hid hc
     have HC2 := Lib.hid hc2
     clear c0 c1 d0 d1 hc hc2 hx hkl hk hg
     subst e1 e2
     go_upto_region 6 with (fail)
     refine wp_region_quiet_below (by kernel_rfl) (by kernel_rfl) ?_
     repeat (go_big_quiet_step (first | with_reducible exact CS.out _))
     refine wpQuiet_nil ?_
     intro _ hw'
     have HG2 := Lib.hid (HG.out.trans ((Bk.below_reg hw').mono HG.out.size))
     go_wp2
     go_roundw
     case rel => exact ⟨k + 1, HK.out, by simp, HG2.out⟩
     case measure => (have := HK.out; simp [intOf]; omega)
  ·obtain rfl : k = L.length := by omega
   have dk : ¬ (L.length : Int) < (L.length : Int) := by omega
   clear hk hkl hg
   go_wp2
   go_ret
   exact ⟨rfl, HG.out⟩
end Go.Proofs.YtkhiemkekmdhgaaGreatDoor
namespace Go.Proofs.YtkhiemkekmdhgaaGreatDoor
open Go Go.RowKit
structure Sk.Kp (B : Nat) (O O' : Nat → Prop) (W W' : World) : Prop where
 size : W.heap.size ≤ W'.heap.size
 own : ∀ b, O' b → O b ∨ W.heap.size ≤ b
 same : ∀ b, B ≤ b → b < W.heap.size → ¬ O b → W'.heap[b]? = W.heap[b]?
theorem Sk.Kp.refl (B : Nat) (O : Nat → Prop) (W : World) : Sk.Kp B O O W W := ⟨Nat.le_refl _, fun _ h => .inl h, fun _ _ _ _ => rfl⟩
theorem Sk.Kp.trans {B : Nat} {O O' O'' : Nat → Prop} {X Y Z : World} (h : Sk.Kp B O O' X Y) (g : Sk.Kp B O' O'' Y Z) : Sk.Kp B O O'' X Z :=
 ⟨Nat.le_trans h.size g.size, fun b hb => by
  rcases g.own b hb with hb | hb
  ·exact h.own b hb
  ·exact .inr (Nat.le_trans h.size hb), fun b hB hb ho => (g.same b hB (Nat.lt_of_lt_of_le hb h.size) fun h2 => by
   rcases h.own b h2 with h3 | h3
   ·exact ho h3
   ·omega).trans (h.same b hB hb ho)⟩
theorem Sk.Kp.below {B : Nat} {O : Nat → Prop} {W W' : World} (h : Below W.heap.size W W') : Sk.Kp B O O W W' := ⟨h.size, fun _ h => .inl h, fun b _ hb _ => h.block b hb⟩
theorem Sk.Kp.set {B : Nat} (O : Nat → Prop) (W : World) {a : Addr} (ha : a.block < B ∨ O a.block) (v : Value) : Sk.Kp B O O W (W.setCell a v) :=
 ⟨by simp [World.setCell], fun _ h => .inl h, fun b hB _ ho => Below.heap_setCell _ _ _ _ fun e => by subst e; rcases ha with ha | ha; omega; exact ho ha⟩
theorem Sk.Kp.put {B : Nat} (O : Nat → Prop) (W : World) {l : Nat} (hl : l < B) (o : Obj) : Sk.Kp B O O W (W.putObj l o) :=
 ⟨by simp, fun _ h => .inl h, fun b hB _ _ => World.putObj_heap_other (by omega)⟩
theorem Sk.Kp.le {B B' : Nat} {O O' : Nat → Prop} {W W' : World} (h : Sk.Kp B O O' W W') (hB : B ≤ B') : Sk.Kp B' O O' W W' := ⟨h.size, h.own, fun b hb => h.same b (Nat.le_trans hB hb)⟩
def Sk.no : Nat → Prop := fun _ => False
def Sk.Seq {α : Type} (P : Program) (gf : FuncId) (lb : Array Value) (En : α → Array Value → World → Prop) (n₀ : Nat) (xs : List α) (w : World) : Prop :=
 ∀ (l : Nat) (J Jx : List α × (Nat → Prop) → World → Prop) (W : World), Below w.heap.size w W → OwnFrom W.heap.size J → OwnFrom W.heap.size Jx →
   (∀ pre O x args W1, J (pre, O) W1 → En x args W1 → Below n₀ W W1 → pre ++ [x] <+: xs → YieldAt Fence.wide 7 P l args W1 fun e W' =>
    (e = .returned (.bool true) ∧ ∃ O', J (pre ++ [x], O') W' ∧ Below n₀ W1 W' ∧ Sk.Kp W.heap.size O O' W1 W') ∨ (e = .returned (.bool false) ∧ ∃ O', Jx (pre ++ [x], O') W' ∧ Sk.Kp W.heap.size O O' W1 W')) →
   J ([], Sk.no) W →
   CallsIn Fence.wide 8 P gf (#[.func (.yield l) #[] #[]] ++ lb) W fun e W' => (∃ v, e = .returned v) ∧ ((∃ O, J (xs, O) W') ∨ ∃ pre O, pre <+: xs ∧ pre ≠ [] ∧ Jx (pre, O) W')
def Sk.left {α : Type} (B n₀ : Nat) (I : List α × (Nat → Prop) → World → Prop) (Ix : Code → List α × (Nat → Prop) → World → Prop) (xs : List α) (O : Nat → Prop) (W : World) : Exit → Act → World → Prop
 | .normal, _, W' => ∃ O', Sk.Kp B O O' W W' ∧ Below n₀ W W' ∧ I (xs, O') W'
 | .ret, _, W' => ∃ O', Sk.Kp B O O' W W' ∧ Ix .ret (xs, O') W'
 | .exit id, _, W' => ∃ O', Sk.Kp B O O' W W' ∧ Ix (.exit id) (xs, O') W'
 | .goto t, _, W' => ∃ O', Sk.Kp B O O' W W' ∧ Ix (.goto t) (xs, O') W'
 | .panic _, _, _ => False
 | .outgrown, _, _ => False
theorem Sk.own_put {B : Nat} {I : World → Prop} (h : OwnFrom B fun (_ : Unit) W => I W) {W : World} {l : Nat} {o : Obj} (o' : Obj) (hs : I W) (hB : B ≤ l) (hl : W.heap[l]? = some o) (ho : o.isCells = false) : I (W.putObj l o') :=
 OwnFrom.putObj (I := fun (_ : Unit) W => I W) (s := ()) h o' hs hB hl ho
section
variable {P : Program}
theorem Sk.range_w {α : Type} {g : Operand} {ps : Array Tmp} {assign body : Code} {Q : Exit → Act → World → Prop} {a : Act} {w : World} {gf : Nat} {lb : Array Value}
 (hg : a.eval g = .func (.func gf) #[] lb) (eg : ∀ args w, (callFunc gf args).run P w = .ok (.enter gf args) w)
 {En : α → Array Value → World → Prop} {n₀ : Nat} {xs : List α} {w0 : World} (hseq : Sk.Seq P gf lb En n₀ xs w0) (hb0 : Below w0.heap.size w0 w) (hn0 : n₀ ≤ w.heap.size)
 (hps : ∀ x args W, En x args W → args.size = ps.size)
 (I : List α × (Nat → Prop) → World → Prop) (Ix : Code → List α × (Nat → Prop) → World → Prop) (hI : OwnFrom w.heap.size I) (hIx : ∀ c, OwnFrom w.heap.size (Ix c)) (h0 : I ([], Sk.no) w)
 (Ax : List α × (Nat → Prop) → α → Act → World → Prop) (hAx : ∀ pre x a', OwnFrom w.heap.size fun (_ : Unit) W => Ax pre x a' W)
 (hassign : ∀ l pre O x args W, I (pre, O) W → En x args W → pre ++ [x] <+: xs → Below n₀ w W →
  assign.wpIn (Fence.wide.inRound l) 7 P (Exit.then (fun a' W' => Below W.heap.size W W' ∧ Ax (pre, O) x a' W') (fun _ _ _ => False)) { tmps := (ps.zip args).foldl (fun t (p, v) => t.setIfInBounds p v) a.tmps, defers := [] } W)
 (hbody : ∀ l pre O x a' W, w.heap.size ≤ l → (∃ r, W.heap[l]? = some (.loop r)) → Ax (pre, O) x a' W → pre ++ [x] <+: xs → Below n₀ w W → body.wpIn (Fence.wide.inRound l) 7 P (Sk.left w.heap.size n₀ I Ix (pre ++ [x]) O W) a' W)
 (hdone : ∀ D O W, w.heap.size ≤ D → I (xs, O) W → W.heap[D]? = some (.deferred (some [])) → Q .normal { a with defers := { target := .collected D, args := #[] } :: a.defers } W)
 (hstop : ∀ D c pre O W, w.heap.size ≤ D → pre <+: xs → pre ≠ [] → Ix c (pre, O) W → W.heap[D]? = some (.deferred (some [])) → c.wpIn Fence.wide 9 P Q { a with defers := { target := .collected D, args := #[] } :: a.defers } W) :
 (Code.rangeFunc g ps assign body).wpIn Fence.wide 9 P Q a w := by
 refine wpIn_rangeFunc fun fn hfn => ?_
 let mk : LoopState → Option Code → Loop := fun st pe => { state := st, pending := pe, fn, tmps := a.tmps, params := ps, assign, body, defers := w.heap.size }
 obtain ⟨W1, hW1⟩ : ∃ W1, W1 = (w.alloc (.deferred (some []))).alloc (.loop (mk .ready none)) := ⟨_, rfl⟩
 have hsz : W1.heap.size = w.heap.size + 2 := by rw [hW1]; simp
 have hlo : W1.heap[w.heap.size + 1]? = some (.loop (mk .ready none)) := by
  have := World.alloc_heap_new (w.alloc (.deferred (some []))) (.loop (mk .ready none))
  rw [World.size_alloc] at this
  rw [hW1]
  exact this
 have hde : W1.heap[w.heap.size]? = some (.deferred (some [])) := by
  rw [hW1]
  exact (Below.heap_alloc _ _ _ (by simp)).trans (World.alloc_heap_new w _)
 have hI1 : I ([], Sk.no) W1 := by rw [hW1]; exact hI.alloc _ (hI.alloc _ h0)
 have hb1 : Below w.heap.size w W1 := by rw [hW1]; exact ((Below.refl _ w).alloc (Nat.le_refl _) _).alloc (by simp) _
 have far : ∀ {A B : World} {row : Option Nat} {k : Nat}, A.grownBy B row → (∀ r, row = some r → W1.heap.size ≤ r ∧ ∃ o : Obj, A.heap[r]? = some o ∧ o.isCells = false) → k < A.heap.size → k < w.heap.size + 2 → B.heap[k]? = A.heap[k]? := fun hg hr hk h2 =>
  hg.block _ hk fun e => by have := (hr _ e.symm).1; omega
 refine ⟨w.heap.size + 1, [{ target := .collected w.heap.size, args := #[] }], W1, { target := .fn (.func gf) lb, args := #[.func (.yield (w.heap.size + 1)) #[] #[]] }, W1, gf,
  #[.func (.yield (w.heap.size + 1)) #[] #[]] ++ lb, W1, by rw [hW1]; exact run_enterLoop_outer _ _ _ _ _, ?_, ?_, ?_, fun _ => by omega, ?_⟩
 ·simp only [resolve, hg]
  simp [go_sem]
 ·intro f' hf'
  exact trivial
 ·simp [invoke, go_sem, eg]
 refine (hseq (w.heap.size + 1) (fun s W => I s W ∧ (∀ b, s.2 b → w.heap.size + 2 ≤ b) ∧ W.heap[w.heap.size + 1]? = some (.loop (mk .ready none)) ∧ W.heap[w.heap.size]? = some (.deferred (some [])))
  (fun s W => ∃ c, Ix c s W ∧ W.heap[w.heap.size + 1]? = some (.loop (mk .done (some c))) ∧ W.heap[w.heap.size]? = some (.deferred (some []))) W1 (hb0.trans (hb1.mono hb0.size)) ?_ ?_ ?_ ⟨hI1, fun b hb => hb.elim, hlo, hde⟩).mono ?_
 ·rintro s A B row ⟨h1, ho, h2, h3⟩ hgr hr
  have hA := (Array.getElem?_eq_some_iff.1 h2).1
  exact ⟨hI s A B row h1 hgr fun r e => ⟨by have := (hr r e).1; omega, (hr r e).2⟩, ho, (far hgr hr hA (by omega)).trans h2, (far hgr hr (by omega) (by omega)).trans h3⟩
 ·rintro s A B row ⟨c, h1, h2, h3⟩ hgr hr
  have hA := (Array.getElem?_eq_some_iff.1 h2).1
  exact ⟨c, hIx c s A B row h1 hgr fun r e => ⟨by have := (hr r e).1; omega, (hr r e).2⟩, (far hgr hr hA (by omega)).trans h2, (far hgr hr (by omega) (by omega)).trans h3⟩
 ·
  rintro pre O x args W ⟨h1, ho, h2, h3⟩ he hbW hpx
  refine ⟨fn, _, assign, body, run_yield (P := P) h2 (hps x args W he), roundIn_of_wpIn hfn (wpIn_mono (hassign (w.heap.size + 1) pre O x args W h1 he hpx (hb1.mono hn0 |>.trans hbW)) ?_)⟩
  have hlW := (Array.getElem?_eq_some_iff.1 h2).1
  have hn1 : n₀ ≤ W.heap.size := by omega
  rintro e a2 W2 hp
  cases e with
  | normal =>
    obtain ⟨g2, x2⟩ := hp
    have l2 := (g2.block _ hlW).trans h2
    have d2 := (g2.block _ (by omega)).trans h3
    have hlt := (Array.getElem?_eq_some_iff.1 l2).1
    refine ⟨_, run_beginRound l2 rfl, ?_⟩
    have l3 : (W2.putObj (w.heap.size + 1) (.loop { mk .ready none with state := .busy })).heap[w.heap.size + 1]? = some (.loop { mk .ready none with state := .busy }) := World.putObj_heap_same hlt
    have d3 : (W2.putObj (w.heap.size + 1) (.loop { mk .ready none with state := .busy })).heap[w.heap.size]? = some (.deferred (some [])) := (World.putObj_heap_other (by omega)).trans d2
    have b2 : Below n₀ W W2 := g2.mono hn1
    have b3 : Below n₀ W2 (W2.putObj (w.heap.size + 1) (.loop { mk .ready none with state := .busy })) := belowK_b hn0 W2 _ _ _ (by omega) l2 rfl rfl
    have k3 : Sk.Kp W1.heap.size O O W (W2.putObj (w.heap.size + 1) (.loop { mk .ready none with state := .busy })) := (Sk.Kp.below g2).trans (Sk.Kp.put O _ (by omega) _)
    refine wpIn_mono (hbody (w.heap.size + 1) pre O x a2 _ (by omega) ⟨_, l3⟩ (Sk.own_put (hAx (pre, O) x a2) _ x2 (by omega) l2 rfl) hpx (((hb1.mono hn0).trans hbW).trans (b2.trans b3))) ?_
    rintro e a4 W4 hp4
    have out : ∀ (jump : Option Code) (O' : Nat → Prop), Sk.Kp w.heap.size O O' (W2.putObj (w.heap.size + 1) (.loop { mk .ready none with state := .busy })) W4 →
     (Instr.endRound (w.heap.size + 1) jump).run P W4 = .ok (.bool jump.isNone) (W4.putObj (w.heap.size + 1) (.loop (mk (if jump.isNone then .ready else .done) jump))) ∧
     (W4.putObj (w.heap.size + 1) (.loop (mk (if jump.isNone then .ready else .done) jump))).heap[w.heap.size + 1]? = some (.loop (mk (if jump.isNone then .ready else .done) jump)) ∧
     (W4.putObj (w.heap.size + 1) (.loop (mk (if jump.isNone then .ready else .done) jump))).heap[w.heap.size]? = some (.deferred (some [])) ∧
     Sk.Kp W1.heap.size O O' W (W4.putObj (w.heap.size + 1) (.loop (mk (if jump.isNone then .ready else .done) jump))) ∧ W4.heap[w.heap.size + 1]? = some (.loop { mk .ready none with state := .busy }) ∧ (∀ b, O' b → w.heap.size + 2 ≤ b) := fun jump O' k4 => by
     have l4 := (k4.same _ (by omega) (by rw [World.putObj_size]; omega) fun h => by have := ho _ h; omega).trans l3
     have d4 := (k4.same _ (Nat.le_refl _) (by rw [World.putObj_size]; omega) fun h => by have := ho _ h; omega).trans d3
     refine ⟨run_endRound (P := P) jump l4, World.putObj_heap_same (Array.getElem?_eq_some_iff.1 l4).1, (World.putObj_heap_other (by omega)).trans d4,
      (k3.trans (k4.le (by omega))).trans (Sk.Kp.put O' _ (by omega) _), l4, fun b hb => ?_⟩
     rcases k4.own b hb with h | h
     ·exact ho b h
     ·rw [World.putObj_size] at h; omega
    cases e with
    | normal =>
      obtain ⟨O', k4, b4, i4⟩ := hp4
      obtain ⟨r5, l5, d5, k5, l4, o5⟩ := out none O' k4
      exact ⟨_, _, r5, .inl ⟨rfl, O', ⟨hI.putObj _ i4 (by omega) l4 rfl, o5, l5, d5⟩, ((b2.trans b3).trans b4).trans (belowK_b hn0 W4 _ _ _ (by omega) l4 rfl rfl), k5⟩⟩
    | ret =>
      obtain ⟨O', k4, i4⟩ := hp4
      obtain ⟨r5, l5, d5, k5, l4, o5⟩ := out (some .ret) O' k4
      exact ⟨_, _, r5, .inr ⟨rfl, O', ⟨.ret, (hIx _).putObj _ i4 (by omega) l4 rfl, l5, d5⟩, k5⟩⟩
    | exit id =>
      obtain ⟨O', k4, i4⟩ := hp4
      obtain ⟨r5, l5, d5, k5, l4, o5⟩ := out (some (.exit id)) O' k4
      exact ⟨_, _, r5, .inr ⟨rfl, O', ⟨.exit id, (hIx _).putObj _ i4 (by omega) l4 rfl, l5, d5⟩, k5⟩⟩
    | goto t =>
      obtain ⟨O', k4, i4⟩ := hp4
      obtain ⟨r5, l5, d5, k5, l4, o5⟩ := out (some (.goto t)) O' k4
      exact ⟨_, _, r5, .inr ⟨rfl, O', ⟨.goto t, (hIx _).putObj _ i4 (by omega) l4 rfl, l5, d5⟩, k5⟩⟩
    | panic ch => exact hp4.elim
    | outgrown => exact hp4.elim
  | exit id => exact hp.elim
  | goto t => exact hp.elim
  | ret => exact hp.elim
  | panic ch => exact hp.elim
  | outgrown => exact hp.elim
 ·
  rintro e W2 ⟨⟨v, rfl⟩, ⟨O, i2, _, l2, d2⟩ | ⟨pre, O, hpre, hne, c, i2, l2, d2⟩⟩
  ·exact ⟨none, _, run_endLoop (P := P) l2 (fun e => by cases e), hdone _ O _ (Nat.le_refl _) (hI.putObj _ i2 (by omega) l2 rfl) ((World.putObj_heap_other (by omega)).trans d2)⟩
  ·exact ⟨some c, _, run_endLoop (P := P) l2 (fun e => by cases e), hstop _ c pre O _ (Nat.le_refl _) hpre hne ((hIx c).putObj _ i2 (by omega) l2 rfl) ((World.putObj_heap_other (by omega)).trans d2)⟩
end
end Go.Proofs.YtkhiemkekmdhgaaGreatDoor
