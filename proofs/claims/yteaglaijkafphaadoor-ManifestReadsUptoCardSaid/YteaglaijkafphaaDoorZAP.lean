import Derived.Test.YteaglaijkafphaaDoorZAD
import Derived.Test.YteaglaijkafphaaDoorZAF
import Derived.Laws.Rows
import Derived.Laws.Tables
import Derived.Laws.CopyOwn
import Derived.Test.YteaglaijkafphaaDoorZAO
import Derived.Test.YteaglaijkafphaaDoorZAJ
namespace Go.Proofs.YteaglaijkafphaaDoor
section
open Go.RowKit
def Fr.half (j : Nat) : Value := .int .u32 ((Fr.Tn 4 j : Nat) : Int)
theorem Fr.nib (r : Nat) : Fr.Tn 4 r = r / 16 ^^^ Fr.Tn 4 (r % 16) := Fr.Tn_split 4 r
theorem Fr.Tn8 (r : Nat) : Fr.Tn 8 r = Fr.Tn 4 (Fr.Tn 4 r) := Fr.Tn_add 4 4 r
theorem Fr.nib_eq {X Y Z : Nat} (hX : X < 4294967296) (hY : Y = X / 16) (hZ : Z = X % 16) : bits .xor .u32 (Y : Int) ((Fr.Tn 4 Z : Nat) : Int) = ((Fr.Tn 4 X : Nat) : Int) := by
 have h : bits .xor .u32 (Y : Int) ((Fr.Tn 4 Z : Nat) : Int) = ((Y ^^^ Fr.Tn 4 Z : Nat) : Int) := u32_xor_nat _ _ (by omega) (Fr.Tn_lt (by omega))
 rw [h, hY, hZ, ← Fr.nib]
def Fr.zeros : Array Value := #[.int .u32 0, .int .u32 0, .int .u32 0, .int .u32 0, .int .u32 0, .int .u32 0, .int .u32 0, .int .u32 0, .int .u32 0, .int .u32 0, .int .u32 0, .int .u32 0, .int .u32 0, .int .u32 0, .int .u32 0, .int .u32 0]
def Fr.Tab (w : World) (g : Nat) : Prop := g < w.heap.size ∧ ∀ j, j < 16 → w.cell? ⟨g, j, none⟩ = some (.int .u32 ((Fr.Tn 4 j : Nat) : Int))
theorem Fr.Tab.kept {w w' : World} {g : Nat} (h : Fr.Tab w g) (b : Below w.heap.size w w') : Fr.Tab w' g := by
 refine ⟨Nat.lt_of_lt_of_le h.1 b.size, fun j hj => ?_⟩
 have := h.2 j hj
 unfold World.cell? at this ⊢
 rw [b.block g h.1]
 exact this
set_option maxHeartbeats 1000000 in
set_option maxRecDepth 100000 in
theorem Fr.half_c (g X : Nat) (hX : X < 4294967296) (w : World) (hT : Fr.Tab w g) :
 Calls Tryd.prog 69 #[.pointer (some ⟨g, 0, none⟩), .int .u32 (X : Int)] w fun e w' => e = .returned (.int .u32 ((Fr.Tn 4 X : Nat) : Int)) ∧ w' = w := by
 obtain ⟨Y, hY⟩ : ∃ Y, Y = X / 16 := ⟨_, rfl⟩
 obtain ⟨Z, hZ⟩ : ∃ Z, Z = X % 16 := ⟨_, rfl⟩
 have hd : (X : Int) / 16 = (Y : Int) := by omega
 have ha : bits .and .u32 (X : Int) 15 = (Z : Int) := by
  have := u32_and_nat X 15 hX (by decide)
  refine this.trans ?_
  rw [hZ, show (15 : Nat) = 2 ^ 4 - 1 from rfl, Nat.and_two_pow_sub_one_eq_mod]
 have hZ16 : Z < 16 := by omega
 have hZi : (Z : Int) < 16 := by omega
 have hZ0 : (0 : Int) ≤ (Z : Int) := by omega
 have c0 := hT.2 Z hZ16
 have hn := Fr.nib_eq hX hY hZ
 generalize Fr.Tn 4 Z = U at c0 hn
 generalize Fr.Tn 4 X = X1 at hn ⊢
 clear hY hZ hT
 go_enter Tryd.func69, Tryd.ntmps69
 go_wp2
 go_ret
 exact ⟨rfl, rfl⟩
set_option maxHeartbeats 1000000 in
set_option maxRecDepth 100000 in
theorem Fr.steps_c (w : World) : Calls Tryd.prog 24 #[] w fun e w' => ∃ g, e = .returned (.pointer (some ⟨g, 0, none⟩)) ∧ Fr.Tab w' g ∧ Below w.heap.size w w' := by
 have hb2 : Below w.heap.size w (w.alloc (.cells Fr.zeros 93)) := (Below.refl _ w).alloc (Nat.le_refl _) _
 have h1 : (w.alloc (.cells Fr.zeros 93)).rowIs w.heap.size 93 16 (Bt.upTo 0 Fr.half (.int .u32 0)) := by
  refine ⟨Fr.zeros, heap_alloc_new w (.cells Fr.zeros 93), rfl, fun i hi => ?_⟩
  have e : Bt.upTo 0 Fr.half (.int .u32 0) i = .int .u32 0 := by unfold Bt.upTo; rw [if_neg (by omega)]
  rw [e]
  rcases (by omega : i = 0 ∨ i = 1 ∨ i = 2 ∨ i = 3 ∨ i = 4 ∨ i = 5 ∨ i = 6 ∨ i = 7 ∨ i = 8 ∨ i = 9 ∨ i = 10 ∨ i = 11 ∨ i = 12 ∨ i = 13 ∨ i = 14 ∨ i = 15) with rfl | rfl | rfl | rfl | rfl | rfl | rfl | rfl | rfl | rfl | rfl | rfl | rfl | rfl | rfl | rfl <;> rfl
 have HLT : Hid (∀ j k, k < 16 → Fr.Tn j k < 4294967296) := Lib.hid fun j k hk => Fr.Tn_lt (by omega)
 have HB2 := Lib.hid hb2
 have H1 := Lib.hid h1
 clear hb2 h1
 go_enter Tryd.func24, Tryd.ntmps24
 go_wp2
 change Code.wp _ _ _ _ (w.alloc (.cells Fr.zeros 93))
 generalize w.alloc (.cells Fr.zeros 93) = w2 at HB2 H1 ⊢
 go_loopw [7] (fun i wr => ∃ k : Nat, k ≤ 16 ∧ i = .int .i64 k ∧ wr.rowIs w.heap.size 93 16 (Bt.upTo k Fr.half (.int .u32 0)) ∧ Below w.heap.size w wr) (fun i _ => 16 - (intOf i).toNat)
 case atStart => exact ⟨0, by omega, rfl, H1.out, HB2.out⟩
 case round =>
  obtain ⟨k, hk, rfl, hR, hB⟩ := hrel
  have HR := Lib.hid hR
  have HB := Lib.hid hB
  clear hR hB HB2 H1
  have hk0 : (0 : Int) ≤ (k : Int) := by omega
  by_cases hl : k < 16
  ·have hki : (k : Int) < 16 := by omega
   have HTL : Hid (∀ j, Fr.Tn j k < 4294967296) := Lib.hid fun j => HLT.out j k hl
   have HHF : Hid (Fr.half k = .int .u32 ((Fr.Tn 4 k : Nat) : Int)) := Lib.hid rfl
   go_wp2_with fail
   go_loop [3, 4, 12] (fun r o j => ∃ i : Nat, i ≤ 4 ∧ j = .int .i64 i ∧ r = .int .u32 (Fr.Tn i k : Nat)) (fun _ _ j => 4 - (intOf j).toNat)
   case atStart => exact ⟨0, by omega, rfl, rfl⟩
   case round =>
    obtain ⟨i, hi, rfl, rfl⟩ := hrel
    have hi0 : (0 : Int) ≤ (i : Int) := by omega
    by_cases hi4 : i < 4
    ·have hii : (i : Int) < 4 := by omega
     have hT := HTL.out i
     have HTN := Lib.hid (Fr.Tn_last i k)
     generalize Fr.Tn i k = Y at hT HTN ⊢
     obtain ⟨Z, hZ⟩ : ∃ Z, Z = Y / 2 := ⟨_, rfl⟩
     have hd : (Y : Int) / 2 = (Z : Int) := by omega
     have hZl : Z < 4294967296 := by omega
     have hand : bits .and .u32 (Y : Int) 1 = ((Y % 2 : Nat) : Int) := by
      have := u32_and_nat Y 1 hT (by decide)
      rwa [Nat.and_one_is_mod] at this
     rcases Nat.mod_two_eq_zero_or_one Y with hm | hm
     ·rw [hm] at hand
      have HE := Lib.hid (HTN.out.trans (Fr.T_even hm))
      rw [← hZ] at HE
      clear hZ hm
      go_wp2
      go_round
      case rel => exact ⟨i + 1, by omega, by simp, by rw [HE.out]⟩
      case measure => simp [intOf]; omega
     ·rw [hm] at hand
      have HE := Lib.hid (HTN.out.trans (Fr.T_odd hm))
      rw [← hZ] at HE
      have hx2 : bits .xor .u32 (Z : Int) 2197175160 = ((Z ^^^ 2197175160 : Nat) : Int) := u32_xor_nat Z 2197175160 hZl (by decide)
      clear hZ hm
      go_wp2
      go_round
      case rel => exact ⟨i + 1, by omega, by simp, by rw [HE.out]⟩
      case measure => simp [intOf]; omega
    ·obtain rfl : i = 4 := by omega
     have c0 := HR.out.cell hl
     have f0 := HR.out.frozen k
     go_wp2
     go_roundw
     case rel => exact ⟨k + 1, by omega, by simp, Bt.upTo_next HR.out rfl, HB.out.trans (Bt.below_set (Nat.le_refl _) _)⟩
     case measure => simp [intOf]; omega
  ·obtain rfl : k = 16 := by omega
   have hall : Fr.Tab wr w.heap.size := ⟨HR.out.lt, fun j hj => by
    have hc := HR.out.cell hj
    rw [hc]
    unfold Bt.upTo
    rw [if_pos hj]
    rfl⟩
   have HA := Lib.hid hall
   clear hall
   have h16 : (16 : Int) < 16 ↔ False := by simp
   go_wp2
   go_ret
   exact ⟨_, rfl, HA.out, HB.out⟩
end
section
open Go.RowKit
set_option maxHeartbeats 1000000 in
set_option maxRecDepth 100000 in
theorem Fr.tsum_c (g : Nat) (s : ByteArray) (hs : s.size ≤ 140737488355328) (w : World) (hT : Fr.Tab w g) :
 Calls Tryd.prog 49 #[.pointer (some ⟨g, 0, none⟩), .string s] w fun e w' => e = .returned (.int .u32 ((Fr.sum s.data.toList : Nat) : Int)) ∧ w' = w := by
 have HS := Lib.hid hs
 have HST : Hid (∀ k (h : k < s.size), Fr.reg Fr.ones (s.data.toList.take (k + 1)) = Fr.Tn 8 (Fr.reg Fr.ones (s.data.toList.take k) ^^^ (s[k]).toNat)) := Lib.hid fun k h => Fr.reg_step h _
 have HLT : Hid (∀ l, Fr.reg Fr.ones l < 4294967296) := Lib.hid fun l => Fr.reg_lt l Fr.ones (by decide)
 have HC : Hid (∀ X : Nat, X < 4294967296 → Calls Tryd.prog 69 #[.pointer (some ⟨g, 0, none⟩), .int .u32 (X : Int)] w fun e w' => e = .returned (.int .u32 ((Fr.Tn 4 X : Nat) : Int)) ∧ w' = w) := Lib.hid fun X hX => Fr.half_c g X hX w hT
 clear hs hT
 go_enter Tryd.func49, Tryd.ntmps49
 go_wp2
 go_loop [5, 6, 9] (fun r x i => ∃ k : Nat, k ≤ s.size ∧ i = .int .i64 k ∧ r = .int .u32 (Fr.reg Fr.ones (s.data.toList.take k) : Nat)) (fun _ _ i => s.size - (intOf i).toNat)
 case atStart => exact ⟨0, by omega, rfl, rfl⟩
 case round =>
  obtain ⟨k, hk, rfl, rfl⟩ := hrel
  have hk0 : (0 : Int) ≤ (k : Int) := by omega
  have hr := HLT.out (s.data.toList.take k)
  by_cases hl : k < s.size
  ·have hki : (k : Int) < (s.size : Int) := by omega
   have hks : (k : Int) < 9223372036854775807 := by have := HS.out; omega
   have HN := Lib.hid (HST.out k hl)
   have hb := (s[k]).toNat_lt
   generalize Fr.reg Fr.ones (s.data.toList.take k) = R at hr HN ⊢
   generalize hbb : s[k] = b at hb HN
   obtain ⟨X, hX⟩ : ∃ X, X = R ^^^ b.toNat := ⟨_, rfl⟩
   have hx : bits .xor .u32 (R : Int) (b.toNat : Int) = (X : Int) := by rw [hX]; exact u32_xor_nat R b.toNat hr (by omega)
   have hXl : X < 4294967296 := by rw [hX]; exact Nat.xor_lt_two_pow (n := 32) hr (by omega)
   rw [← hX, Fr.Tn8] at HN
   have c1 := HC.out X hXl
   have hX1l : Fr.Tn 4 X < 4294967296 := Fr.Tn_lt hXl
   generalize Fr.Tn 4 X = X1 at c1 hX1l HN
   have c2 := HC.out X1 hX1l
   generalize Fr.Tn 4 X1 = X2 at c2 HN
   clear hX
   go_wp2_with fail
   with_reducible refine c1.mono ?_
   rintro e w1 ⟨rfl, h1⟩
   subst w1
   clear c1
   go_wp2_with fail
   with_reducible refine c2.mono ?_
   rintro e w1 ⟨rfl, h1⟩
   subst w1
   clear c2
   go_wp2
   go_round
   case rel => exact ⟨k + 1, by omega, by simp, by rw [HN.out]⟩
   case measure => simp [intOf]; omega
  ·obtain rfl : k = s.size := by omega
   have hki : ¬ (s.size : Int) < (s.size : Int) := by omega
   have hta : s.data.toList.take s.size = s.data.toList := List.take_of_length_le (by rw [Ty.length_data]; exact Nat.le_refl _)
   have HSM : Hid (Fr.sum s.data.toList = Fr.reg Fr.ones (s.data.toList.take s.size) ^^^ 4294967295) := Lib.hid (by rw [hta]; rfl)
   generalize Fr.reg Fr.ones (s.data.toList.take s.size) = R at hr HSM ⊢
   have hx : bits .xor .u32 IntKind.u32.max (R : Int) = ((4294967295 ^^^ R : Nat) : Int) := u32_xor_nat 4294967295 R (by decide) hr
   go_wp2
   go_ret
   exact ⟨by rw [HSM.out, Nat.xor_comm]; rfl, rfl⟩
theorem Fr.or_add {a b k : Nat} (ha : a < 2 ^ k) : a ||| b * 2 ^ k = a + b * 2 ^ k := by
 rw [Nat.or_comm, ← Nat.shiftLeft_eq, Nat.add_comm, Nat.shiftLeft_add_eq_or_of_lt ha]
set_option maxHeartbeats 2000000 in
set_option maxRecDepth 100000 in
theorem Fr.numberOf_c (s : ByteArray) (h : 4 ≤ s.size) (w : World) :
 Calls Tryd.prog 48 #[.string s] w fun e w' => e = .returned (.int .u32 ((Fr.val (s.data.toList.take 4) : Nat) : Int)) ∧ ∃ n, w' = w.drewN n := by
 have hv := Fr.val4 h
 have h0 := (s[0]).toNat_lt
 have h1 := (s[1]).toNat_lt
 have h2 := (s[2]).toNat_lt
 have h3 := (s[3]).toNat_lt
 have z0 : (0 : Int) < (s.size : Int) := by omega
 have z1 : (1 : Int) < (s.size : Int) := by omega
 have z2 : (2 : Int) < (s.size : Int) := by omega
 have z3 : (3 : Int) < (s.size : Int) := by omega
 have n0 : 0 < s.size := by omega
 have n1 : 1 < s.size := by omega
 have n2 : 2 < s.size := by omega
 have n3 : 3 < s.size := by omega
 have o1 : bits .or .u32 ((s[0]).toNat : Int) (((s[1]).toNat : Int) * 256) = (((s[0]).toNat + (s[1]).toNat * 256 : Nat) : Int) := by
  have := u32_or_nat (s[0]).toNat ((s[1]).toNat * 256) (by omega) (by omega)
  rw [Fr.or_add (k := 8) (by omega)] at this
  exact this
 have o2 : bits .or .u32 (((s[0]).toNat + (s[1]).toNat * 256 : Nat) : Int) (((s[2]).toNat : Int) * 65536) = (((s[0]).toNat + (s[1]).toNat * 256 + (s[2]).toNat * 65536 : Nat) : Int) := by
  have := u32_or_nat ((s[0]).toNat + (s[1]).toNat * 256) ((s[2]).toNat * 65536) (by omega) (by omega)
  rw [Fr.or_add (k := 16) (by omega)] at this
  exact this
 have o3 : bits .or .u32 (((s[0]).toNat + (s[1]).toNat * 256 + (s[2]).toNat * 65536 : Nat) : Int) (((s[3]).toNat : Int) * 16777216) = ((Fr.val (s.data.toList.take 4) : Nat) : Int) := by
  have := u32_or_nat ((s[0]).toNat + (s[1]).toNat * 256 + (s[2]).toNat * 65536) ((s[3]).toNat * 16777216) (by omega) (by omega)
  rw [Fr.or_add (k := 24) (by omega), ← hv] at this
  exact this
 generalize Fr.val (s.data.toList.take 4) = V at o3 ⊢
 generalize (s[0]).toNat + (s[1]).toNat * 256 + (s[2]).toNat * 65536 = V2 at o2 o3
 generalize (s[0]).toNat + (s[1]).toNat * 256 = V1 at o1 o2
 clear hv
 go_enter Tryd.func48, Tryd.ntmps48
 go_wp2_with fail
 go_quiet (fail)
 go_wp2
 go_ret
 exact ⟨rfl, _, rfl⟩
end
section
open Go.RowKit
def Fr.fst (l : List UInt8) : List UInt8 × Nat :=
 if l.length < 4 then ([], 2) else if 1048576 < Fr.val (l.take 4) then ([], 8) else if l.length < Fr.val (l.take 4) + 8 then ([], 2)
 else if Fr.val ((l.drop (4 + Fr.val (l.take 4))).take 4) ≠ Fr.sum ((l.drop 4).take (Fr.val (l.take 4))) then ([], 8) else ((l.drop 4).take (Fr.val (l.take 4)), 0)
theorem Fr.Mid.fst {l : List UInt8} {a : Nat} {L : List Fr.Str} (h : Fr.Mid l a L) :
 ((Fr.fst (l.drop a)).2 = 2 ∧ Fr.scan l = (0, L, a)) ∨ ((Fr.fst (l.drop a)).2 = 8 ∧ Fr.scan l = (8, [], 0)) ∨
 ((Fr.fst (l.drop a)).2 = 0 ∧ (Fr.fst (l.drop a)).1.length ≤ 1048576 ∧ a + ((Fr.fst (l.drop a)).1.length + 8) ≤ l.length ∧ Fr.Mid l (a + ((Fr.fst (l.drop a)).1.length + 8)) (L ++ [(Fr.fst (l.drop a)).1])) := by
 by_cases h4 : (l.drop a).length < 4
 ·have e : Fr.fst (l.drop a) = ([], 2) := if_pos h4
  rw [e]
  exact .inl ⟨rfl, h.short h4⟩
 ·by_cases hb : 1048576 < Fr.val ((l.drop a).take 4)
  ·have e : Fr.fst (l.drop a) = ([], 8) := (if_neg h4).trans (if_pos hb)
   rw [e]
   exact .inr (.inl ⟨rfl, h.big h4 hb⟩)
  ·by_cases ht : (l.drop a).length < Fr.val ((l.drop a).take 4) + 8
   ·have e : Fr.fst (l.drop a) = ([], 2) := (if_neg h4).trans ((if_neg hb).trans (if_pos ht))
    rw [e]
    exact .inl ⟨rfl, h.torn h4 hb ht⟩
   ·by_cases hs : Fr.val (((l.drop a).drop (4 + Fr.val ((l.drop a).take 4))).take 4) = Fr.sum (((l.drop a).drop 4).take (Fr.val ((l.drop a).take 4)))
    ·have e : Fr.fst (l.drop a) = (((l.drop a).drop 4).take (Fr.val ((l.drop a).take 4)), 0) := (if_neg h4).trans ((if_neg hb).trans ((if_neg ht).trans (if_neg (fun h => h hs))))
     have hlen : (l.drop a).length = l.length - a := List.length_drop
     have hk : (((l.drop a).drop 4).take (Fr.val ((l.drop a).take 4))).length = Fr.val ((l.drop a).take 4) := by
      rw [List.length_take, List.length_drop]; omega
     have hn := h.next h4 hb ht hs
     have := h.1
     rw [e]
     refine .inr (.inr ⟨rfl, ?_⟩)
     rw [show (((l.drop a).drop 4).take (Fr.val ((l.drop a).take 4)), (0 : Nat)).1 = ((l.drop a).drop 4).take (Fr.val ((l.drop a).take 4)) from rfl, hk]
     exact ⟨by omega, by omega, hn⟩
    ·have e : Fr.fst (l.drop a) = ([], 8) := (if_neg h4).trans ((if_neg hb).trans ((if_neg ht).trans (if_pos hs)))
     rw [e]
     exact .inr (.inl ⟨rfl, h.wrong h4 hb ht hs⟩)
set_option maxHeartbeats 2000000 in
set_option maxRecDepth 100000 in
theorem Fr.first_c (g : Nat) (s : ByteArray) (hs : s.size ≤ 140737488355328) (w : World) (hT : Fr.Tab w g) :
 Calls Tryd.prog 25 #[.pointer (some ⟨g, 0, none⟩), .string s] w fun e w' => e = .returned (.tuple #[.string (Ty.S (Fr.fst s.data.toList).1), .int .i64 (((Fr.fst s.data.toList).2 : Nat) : Int)]) ∧ ∃ n, w' = w.drewN n := by
 obtain ⟨l, hl⟩ : ∃ l, l = s.data.toList := ⟨_, rfl⟩
 have hll : l.length = s.size := by rw [hl, Ty.length_data]
 rw [← hl]
 have HL := Lib.hid hl
 obtain ⟨R, hR⟩ : ∃ R, R = Fr.fst l := ⟨_, rfl⟩
 rw [← hR]
 have HRR := Lib.hid hR
 have HT := Lib.hid hT
 clear hR hT
 by_cases h4 : s.size < 4
 ·have h4i : (s.size : Int) < 4 := by omega
  have HE : Hid (R = ([], 2)) := Lib.hid (HRR.out.trans (if_pos (by omega)))
  clear hl hll h4
  go_enter Tryd.func25, Tryd.ntmps25
  go_wp2
  go_ret2
  exact ⟨by rw [HE.out]; rfl, 0, rfl⟩
 ·have h4i : ¬ (s.size : Int) < 4 := by omega
  have cn := Fr.numberOf_c s (by omega) w
  rw [← hl] at cn
  have hN32 : Fr.val (l.take 4) < 4294967296 := by
   have := Fr.val_lt (l.take 4)
   rw [List.length_take, Nat.min_eq_left (by omega)] at this
   exact this
  have FB : Hid (1048576 < Fr.val (l.take 4) → R = ([], 8)) := Lib.hid fun h => HRR.out.trans ((if_neg (by omega)).trans (if_pos h))
  have FT : Hid (¬ 1048576 < Fr.val (l.take 4) → s.size < Fr.val (l.take 4) + 8 → R = ([], 2)) := Lib.hid fun h h2 => HRR.out.trans ((if_neg (by omega)).trans ((if_neg h).trans (if_pos (by omega))))
  have FW : Hid (¬ 1048576 < Fr.val (l.take 4) → ¬ s.size < Fr.val (l.take 4) + 8 → Fr.val ((l.drop (4 + Fr.val (l.take 4))).take 4) ≠ Fr.sum ((l.drop 4).take (Fr.val (l.take 4))) → R = ([], 8)) := Lib.hid fun h h2 h3 => HRR.out.trans ((if_neg (by omega)).trans ((if_neg h).trans ((if_neg (by omega)).trans (if_pos h3))))
  have FN : Hid (¬ 1048576 < Fr.val (l.take 4) → ¬ s.size < Fr.val (l.take 4) + 8 → Fr.val ((l.drop (4 + Fr.val (l.take 4))).take 4) = Fr.sum ((l.drop 4).take (Fr.val (l.take 4))) → R = ((l.drop 4).take (Fr.val (l.take 4)), 0)) := Lib.hid fun h h2 h3 => HRR.out.trans ((if_neg (by omega)).trans ((if_neg h).trans ((if_neg (by omega)).trans (if_neg (fun hh => hh h3)))))
  generalize Fr.val (l.take 4) = N at cn hN32 FB FT FW FN
  clear hl h4
  go_enter Tryd.func25, Tryd.ntmps25
  go_wp2_with fail
  with_reducible refine cn.mono ?_
  rintro e w1 ⟨rfl, n1, hw1⟩
  have HT1 : Hid (Fr.Tab w1 g) := Lib.hid (Fr.Tab.kept HT.out (by rw [hw1]; exact Bt.drewN_below w n1))
  have HW1 := Lib.hid hw1
  clear hw1 cn HT
  by_cases hb : 1048576 < N
  ·have hbi : (1048576 : Int) < (N : Int) := by omega
   have HE := Lib.hid (FB.out hb)
   clear hb FT FW FN hll
   go_wp2
   go_ret2
   exact ⟨by rw [HE.out]; rfl, n1, HW1.out⟩
  ·have hbi : ¬ (1048576 : Int) < (N : Int) := by omega
   by_cases ht : s.size < N + 8
   ·have hti : (s.size : Int) < 4 + (N : Int) + 4 := by omega
    have HE := Lib.hid (FT.out hb (by omega))
    clear hb ht FW FN FB hll
    go_wp2
    go_ret2
    exact ⟨by rw [HE.out]; rfl, n1, HW1.out⟩
   ·have hti : ¬ (s.size : Int) < 4 + (N : Int) + 4 := by omega
    have hT : s.extract 4 (4 + N) = Ty.S ((l.drop 4).take N) := by rw [Fr.ext_at, HL.out, Nat.add_sub_cancel_left]
    have hY : s.extract (4 + N) s.size = Ty.S (l.drop (4 + N)) := by
     rw [Fr.ext_at, HL.out, List.take_of_length_le (by rw [List.length_drop, Ty.length_data]; omega)]
    have hTs : (Ty.S ((l.drop 4).take N)).size ≤ 1048576 := by rw [Ty.size_S, List.length_take]; omega
    have hYs : 4 ≤ (Ty.S (l.drop (4 + N))).size := by rw [Ty.size_S, List.length_drop]; omega
    have C1 : Hid (∀ m, Calls Tryd.prog 49 #[.pointer (some ⟨g, 0, none⟩), .string (Ty.S ((l.drop 4).take N))] (w1.drewN m) fun e w' => e = .returned (.int .u32 ((Fr.sum ((l.drop 4).take N) : Nat) : Int)) ∧ w' = w1.drewN m) := Lib.hid fun m => by
     have := Fr.tsum_c g (Ty.S ((l.drop 4).take N)) (by omega) (w1.drewN m) (Fr.Tab.kept HT1.out (Bt.drewN_below w1 m))
     rwa [Ty.data_S] at this
    have C2 : Hid (∀ m, Calls Tryd.prog 48 #[.string (Ty.S (l.drop (4 + N)))] (w1.drewN m) fun e w' => e = .returned (.int .u32 ((Fr.val ((l.drop (4 + N)).take 4) : Nat) : Int)) ∧ ∃ n, w' = (w1.drewN m).drewN n) := Lib.hid fun m => by
     have := Fr.numberOf_c (Ty.S (l.drop (4 + N))) hYs (w1.drewN m)
     rwa [Ty.data_S] at this
    have FW := Lib.hid (FW.out hb ht)
    have FN := Lib.hid (FN.out hb ht)
    generalize Fr.val ((l.drop (4 + N)).take 4) = V at C2 FW FN
    generalize Fr.sum ((l.drop 4).take N) = M at C1 FW FN
    generalize (l.drop 4).take N = K at hT hTs C1 FN
    generalize Ty.S (l.drop (4 + N)) = Y at hY hYs C2
    obtain ⟨T, hTT⟩ : ∃ T, T = Ty.S K := ⟨_, rfl⟩
    rw [← hTT] at hT hTs C1
    have HTT := Lib.hid hTT
    have t2 : (4 + (N : Int)).toNat = 4 + N := by omega
    have hN2 : N + 8 ≤ s.size := by omega
    have hN2i : (4 + (N : Int)) ≤ (s.size : Int) := by omega
    have hN4i : (4 : Int) ≤ 4 + (N : Int) := by omega
    clear hTT hb ht hll FB FT
    go_wp2_with fail
    go_quiet (first | (go_at_call 49; exact Calls.quiet_of_same (C1.out _)) | (go_at_call 48; exact Calls.quiet_of (C2.out _)))
    by_cases hv : V = M
    ·have hvi : ((M : Nat) : Int) = ((V : Nat) : Int) := by rw [hv]
     have HE := Lib.hid (FN.out hv)
     clear FW FN hv
     go_wp2
     go_ret2
     refine ⟨by rw [HE.out, HTT.out]; rfl, n1 + nq, ?_⟩
     rw [HW1.out]
     exact World.drewN_drewN _ _ _
    ·have hvi : ¬ ((M : Nat) : Int) = ((V : Nat) : Int) := by omega
     have HE := Lib.hid (FW.out hv)
     clear FW FN hv
     go_wp2
     go_ret2
     refine ⟨by rw [HE.out]; rfl, n1 + nq, ?_⟩
     rw [HW1.out]
     exact World.drewN_drewN _ _ _
end
section
open Go.RowKit
def Fr.W (w : World) : Prop := w = w
theorem Fr.W.below {w w' : World} (_ : Fr.W w) (_ : Below w.heap.size w w') : Fr.W w' := rfl
set_option maxHeartbeats 4000000 in
set_option maxRecDepth 100000 in
theorem Fr.scan_c (s : ByteArray) (hs : s.size ≤ 70368744177664) (w : World) (_ : Fr.W w) :
 Calls Tryd.prog 12 #[.string s] w (Fr.Got w (Fr.scan s.data.toList)) := by
 obtain ⟨l, hl⟩ : ∃ l, l = s.data.toList := ⟨_, rfl⟩
 have hll : l.length = s.size := by rw [hl, Ty.length_data]
 rw [← hl]
 have HL := Lib.hid hl
 have HLL := Lib.hid hll
 have HM0 := Lib.hid (Fr.Mid.start l)
 obtain ⟨R, hR⟩ : ∃ R, R = Fr.scan l := ⟨_, rfl⟩
 rw [← hR]
 have HRR := Lib.hid hR
 have c1 := Fr.steps_c w
 have CF : Hid (∀ g (t : ByteArray) wz, t.size ≤ 140737488355328 → Fr.Tab wz g → Calls Tryd.prog 25 #[.pointer (some ⟨g, 0, none⟩), .string t] wz fun e w' => e = .returned (.tuple #[.string (Ty.S (Fr.fst t.data.toList).1), .int .i64 (((Fr.fst t.data.toList).2 : Nat) : Int)]) ∧ ∃ n, w' = wz.drewN n) := Lib.hid fun g t wz h h2 => Fr.first_c g t h wz h2
 clear hR hl hll
 go_enter Tryd.func12, Tryd.ntmps12
 go_wp2_with fail
 with_reducible refine c1.mono ?_
 rintro e w0 ⟨g, rfl, hT0, g0⟩
 have HT0 := Lib.hid hT0
 have HB0 := Lib.hid g0
 clear c1 hT0 g0
 go_wp2
 go_loopw [5, 6, 8, 9] (fun ov av _ _ wr => ∃ (a : Nat) (L : List Fr.Str), av = .int .i64 a ∧ Fr.Mid l a L ∧ Tx.Own w0.heap.size wr ov L ∧ Below w0.heap.size w0 wr) (fun _ av _ _ _ => s.size - (intOf av).toNat)
 case atStart => exact ⟨0, [], rfl, HM0.out, Tx.Own.nil _ _, Below.refl _ _⟩
 case round =>
  obtain ⟨a, L, rfl, hM, hO, hb⟩ := hrel
  have hT := HT0.out.kept hb
  have has : a ≤ s.size := by have := hM.1; rw [HLL.out] at this; exact this
  have hL8 : 8 * L.length ≤ a := hM.2.1
  have hF := hM.fst
  have HO := Lib.hid hO
  have HB := Lib.hid hb
  have hws := hb.size
  have ha0 : (0 : Int) ≤ (a : Int) := by omega
  have hai : (a : Int) ≤ (s.size : Int) := by omega
  have hx : s.extract a s.size = Ty.S (l.drop a) := by
   rw [Fr.ext_at, HL.out, List.take_of_length_le (by rw [List.length_drop, Ty.length_data]; omega)]
  have cf := CF.out g (Ty.S (l.drop a)) wr (by rw [Ty.size_S, List.length_drop, HLL.out]; omega) hT
  rw [Ty.data_S] at cf
  rw [HLL.out] at hF
  generalize Ty.S (l.drop a) = X at hx cf
  obtain ⟨F, hFF⟩ : ∃ F, F = Fr.fst (l.drop a) := ⟨_, rfl⟩
  rw [← hFF] at cf hF
  obtain ⟨K, E⟩ := F
  simp only at cf hF
  have HF := Lib.hid hF
  obtain ⟨T, hTT⟩ : ∃ T, T = Ty.S K := ⟨_, rfl⟩
  rw [← hTT] at cf
  have HTT := Lib.hid hTT
  have hTs : T.size = K.length := by rw [hTT, Ty.size_S]
  clear hM hO hb HM0 hT HT0 hF hFF hTT CF
  go_wp2_with fail
  with_reducible refine cf.mono ?_
  rintro e w1 ⟨rfl, n1, hw1⟩
  have HB1 : Hid (Below w0.heap.size w0 w1) := Lib.hid (by rw [hw1]; exact HB.out.trans ((Bt.drewN_below _ _).mono hws))
  have HO1 : Hid (Tx.Own w0.heap.size w1 u5 L) := Lib.hid (by rw [hw1]; exact Bt.Buf.kept HO.out (Bt.drewN_below _ _))
  clear hw1 cf HO HB
  rcases HF.out with ⟨rfl, hS⟩ | ⟨rfl, hS⟩ | ⟨rfl, hK, hKs, hM⟩
  ·have HE := Lib.hid (HRR.out.trans hS)
   have HAT := Lib.hid (Tx.Own.at HO1.out)
   clear hS HF HTT hTs
   go_wp2
   go_ret3
   exact Fr.Got.good HE.out HAT.out (HB0.out.trans (HB1.out.mono HB0.out.size))
  ·have HE := Lib.hid (HRR.out.trans hS)
   clear hS HF HTT hTs
   go_wp2
   go_ret3
   exact Fr.Got.bad HE.out (HB0.out.trans (HB1.out.mono HB0.out.size))
  ·have HM := Lib.hid hM
   have cc := Tx.clone_c T w1 (by omega)
   have hLL : (L.length + 1) * 16 ≤ 140737488355328 := by omega
   clear hM HF
   go_wp2_with fail
   with_reducible refine cc.mono ?_
   rintro e w2 ⟨rfl, g2⟩
   have HB2 : Hid (Below w0.heap.size w0 w2) := Lib.hid (HB1.out.trans (g2.mono HB1.out.size))
   have hO2 : Tx.Own w0.heap.size w2 u5 L := Bt.Buf.kept HO1.out g2
   have hws2 := HB2.out.size
   clear cc g2 HB1 HO1
   go_wp2_with (at_builtin; refine Bt.wpList_append_one 9 45 (.string ⟨#[]⟩) 16 Tryd.underlying45 Tx.infoS rfl (hO2.pre K) hws2 hLL (by omega) (.tmp 23) (.tmp 26) _ rfl rfl rfl rfl rfl ?_; intro v3 w3 h3 g3)
   have HO3 := Lib.hid (Tx.Own.post (h3 (by rw [← Tx.sv_snoc, ← HTT.out])))
   have HB3 := Lib.hid (Tx.grew_below HB2.out hO2 g3)
   clear h3 g3 hO2 hLL
   go_wp2
   go_roundw
   case rel => exact ⟨a + (K.length + 8), L ++ [K], by congr 1, HM.out, HO3.out, HB3.out⟩
   case measure => simp [intOf]; omega
end
section
open Go Go.RowKit Go.Maps
theorem Mf.scan_inv : ∀ (n : Nat) (l : List UInt8), l.length ≤ n → 8 * (Fr.scan l).2.1.length ≤ l.length ∧ ∀ x ∈ (Fr.scan l).2.1, x.length ≤ 1048576
 | 0, l, h => by
   obtain rfl : l = [] := List.eq_nil_of_length_eq_zero (by omega)
   rw [Fr.scan_nil]
   exact ⟨Nat.le_refl _, fun x hx => by cases hx⟩
 | n + 1, l, h => by
   rw [Fr.scan_is]
   split
   ·exact ⟨Nat.zero_le _, fun x hx => by cases hx⟩
   ·split
    ·exact ⟨Nat.zero_le _, fun x hx => by cases hx⟩
    ·split
     ·exact ⟨Nat.zero_le _, fun x hx => by cases hx⟩
     ·split
      ·exact ⟨Nat.zero_le _, fun x hx => by cases hx⟩
      ·split
       ·exact ⟨Nat.zero_le _, fun x hx => by cases hx⟩
       ·next h1 h2 h3 _ _ =>
        obtain ⟨i1, i2⟩ := Mf.scan_inv n (l.drop (Fr.val (l.take 4) + 8)) (by rw [List.length_drop]; omega)
        rw [List.length_drop] at i1
        refine ⟨by simp only [List.length_cons]; omega, fun x hx => ?_⟩
        rcases List.mem_cons.1 hx with rfl | hx
        ·rw [List.length_take]; omega
        ·exact i2 x hx
set_option maxHeartbeats 8000000 in
set_option maxRecDepth 100000 in
theorem Mf.read_c (t : ByteArray) (w : World) (hT : Ty.Tabs w) (ht : t.size ≤ 16777216) :
 Calls Tryd.prog 6 #[.string t] w (Mf.GotS w (Mf.rr t.data.toList)) := by
 obtain ⟨l, hl⟩ : ∃ l, l = t.data.toList := ⟨_, rfl⟩
 have hll : l.length = t.size := by rw [hl, Ty.length_data]
 have hinv := Mf.scan_inv _ l (Nat.le_refl _)
 have herr := Fr.scan_err l
 have CSC := Lib.hid fun (W : World) => Fr.scan_c t (by omega) W rfl
 rw [← hl] at CSC ⊢
 obtain ⟨w0, hw0⟩ : ∃ w0, w0 = w.alloc (.cells #[.slice none 0 0, .int .i64 0, .int .i64 0] 25) := ⟨_, rfl⟩
 have g0 : Below w.heap.size w w0 := by rw [hw0]; exact (Below.refl _ _).alloc (Nat.le_refl _) _
 have s0 : w0.heap.size = w.heap.size + 1 := by rw [hw0]; exact World.size_alloc ..
 have hyr : w0.heap[w.heap.size]? = some (.cells #[.slice none 0 0, .int .i64 0, .int .i64 0] 25 (0, 0)) := by
  rw [hw0]
  exact heap_alloc_new w _
 have HT := Lib.hid fun (W : World) (g : Below w.heap.size w W) => Ty.Tabs.below hT g (Ty.Tabs.two hT)
 have HLN : Hid ((Fr.scan l).2.1.length ≤ 2097152 ∧ ∀ x ∈ (Fr.scan l).2.1, x.length ≤ 1048576) := Lib.hid ⟨by have := hinv.1; omega, hinv.2⟩
 have HE8 : Hid ((Fr.scan l).1 = 0 ∨ (Fr.scan l).1 = 8) := Lib.hid (by rcases herr with h | h; exact .inl h; exact .inr (by rw [h]))
 have HRR : Hid (Mf.rr l = if (Fr.scan l).1 = 0 then Mf.rp ⟨[], 0, 0⟩ (Fr.scan l).2.1 else none) := Lib.hid rfl
 have HB0 := Lib.hid g0
 have HYR := Lib.hid hyr
 have HS0 := Lib.hid s0
 generalize Mf.rr l = RES at HRR ⊢
 clear hT ht hl hll hinv herr g0 hyr
 go_enter Tryd.func6, Tryd.ntmps6
 go_wp2_with fail
 rw [← hw0]
 clear hw0
 refine (CSC.out w0).mono ?_
 rintro e w2 ⟨x, rfl, hx, g2⟩
 have hbw := HB0.out.trans (g2.mono HB0.out.size)
 have HB2 := Lib.hid hbw
 have hy2 := (g2.block w.heap.size (by have := HS0.out; omega)).trans HYR.out
 have HY2 := Lib.hid hy2
 obtain ⟨xa, xc, rfl, -, -, hx9⟩ := hx
 have H9 := Lib.hid hx9
 clear g2 CSC hx9 hbw HYR
 generalize (Fr.scan l).2.2 = ct
 generalize (Fr.scan l).1 = er at HE8 HRR ⊢
 generalize (Fr.scan l).2.1 = TS at HLN HRR H9 ⊢
 rcases HE8.out with rfl | rfl
 ·have HRR := Lib.hid (HRR.out.trans (if_pos rfl))
  have CB := Mf.bookOf_c (.slice none 0 0) ⟨[], 0, 0⟩ w2 (Mf.At.nil _) (fun _ h => nomatch h) (Nat.zero_le _)
  unfold Mf.sv at CB
  simp only at CB
  have hl0 : (TS.length : Int) ≤ 2097152 := by have := HLN.out.1; omega
  clear HE8 hy2
  simp only [Int.cast_ofNat_Int]
  go_wp2_with fail
  with_reducible refine CB.mono ?_
  rintro e w3 ⟨q, K0, rfl, hK, hm, hB3⟩
  have HK3 := Lib.hid hK
  have HB3 := Lib.hid hB3
  have HM0 := Lib.hid hm
  clear CB hK hm hB3
  go_wp2_with fail
  go_loopw [26] (fun i wr => ∃ (k : Nat) (K : List (Nat × Mf.P)) (pl : Nat) (f n : Int), k ≤ TS.length ∧ i = .int .i64 k ∧ Mf.Bk w2.heap.size wr q K pl f n ∧ Below w2.heap.size w2 wr ∧ pl ≤ 1000 * k ∧ RES = Mf.rp ⟨K.map (·.2), f, n⟩ (TS.drop k)) (fun i _ => TS.length - (intOf i).toNat)
  case atStart => exact ⟨0, K0, 0, 0, 0, Nat.zero_le _, rfl, HK3.out, HB3.out, Nat.zero_le _, by rw [HM0.out]; exact HRR.out⟩
  case round =>
   obtain ⟨k, K, pl, f, n, hk, rfl, hK, hB, hpl, hres⟩ := hrel
   have hk0 : (0 : Int) ≤ (k : Int) := by omega
   have HK := Lib.hid hK
   have HB := Lib.hid hB
   have HPL := Lib.hid hpl
   have hyr := (hB.block w.heap.size (lt_of_block HY2.out)).trans HY2.out
   by_cases hkl : k < TS.length
   ·rcases H9.out with ⟨h9, -⟩ | ⟨b, o, rfl, hlt, hc⟩
    ·rw [h9] at hkl; simp at hkl
    have c0 := (hB.cell (p := ⟨b, o + k, none⟩) hlt).trans (hc k hkl)
    have hx := List.getElem?_eq_getElem hkl
    rw [Tx.sv, List.getD_eq_getElem?_getD, hx, Option.getD_some] at c0
    generalize TS[k] = t1 at hx c0
    have hst := Mf.rp_step (s := ⟨K.map (·.2), f, n⟩) hx
    rw [← hres] at hst
    have CD := Lib.hid (Mf.decoded_c t1 wr (HT.out wr (HB2.out.trans (hB.mono HB2.out.size))) (by have := HLN.out.2 t1 (List.mem_of_getElem? hx); omega))
    have HST := Lib.hid hst
    have hki : (k : Int) < (TS.length : Int) := by omega
    have HKL := Lib.hid hkl
    clear hx hc hlt hkl hk hK hB hpl hres hst hyr
    go_wp2_with fail
    with_reducible refine CD.out.mono ?_
    rintro e w4 ⟨ok, vd, va, x, rfl, ⟨ad, nd, cd, rfl⟩, ⟨aa, na, ca, rfl⟩, hB4, hrd⟩
    have HB4 := Lib.hid hB4
    have hw24 := HB.out.trans (hB4.mono HB.out.size)
    have HY4 := Lib.hid ((hw24.block w.heap.size (lt_of_block HY2.out)).trans HY2.out)
    have HW24 := Lib.hid hw24
    clear CD c0 hB4 hw24
    rcases hrd with ⟨rfl, hr⟩ | ⟨rfl, hr, hD, hA⟩
    ·have HN : Hid (RES = none) := Lib.hid (by rw [HST.out, hr])
     have hyA := ((Below.refl w4.heap.size w4).alloc (Nat.le_refl _) (.cells #[.slice ad nd cd, .slice aa na ca, .int .i64 x.floor, .int .i64 x.next] 37)).block w.heap.size (lt_of_block HY4.out)
     obtain ⟨⟨y0, y1, y2⟩, z0, z1, z2⟩ := Mf.three (hyA.trans HY4.out)
     have hbA := (HB2.out.trans (HW24.out.mono HB2.out.size)).alloc (HB2.out.trans (HW24.out.mono HB2.out.size)).size (.cells #[.slice ad nd cd, .slice aa na ca, .int .i64 x.floor, .int .i64 x.next] 37)
     have HF := Lib.hid (Mf.GotS.bad (r := RES) HN.out (Mf.below3 (q := w.heap.size) hbA (Nat.le_refl _) (.slice none 0 0) (.int .i64 0) (.int .i64 0)))
     clear hr hyA hbA
     go_wp2
     (try simp only [Exit.inBlock, Exit.then])
     refine bodyPost_ret (v := .tuple #[.agg #[.slice none 0 0, .int .i64 0, .int .i64 0], .int .i64 8]) ?_ rfl HF.out
     rw [results_cell_tmp rfl]
     go_simp
    ·obtain ⟨w5, hw5⟩ : ∃ w5, w5 = w4.alloc (.cells #[.slice ad nd cd, .slice aa na ca, .int .i64 x.floor, .int .i64 x.next] 37) := ⟨_, rfl⟩
     have g5 : Below w4.heap.size w4 w5 := by rw [hw5]; exact (Below.refl _ _).alloc (Nat.le_refl _) _
     have hD5 := hD.kept g5
     have hA5 := hA.kept g5
     have hK5 := (HK.out.kept HB4.out).kept g5
     have hW5 := HW24.out.trans (g5.mono HW24.out.size)
     have CA := Mf.bapply_c (B := w2.heap.size) hK5 hW5.size (.slice ad nd cd) (.slice aa na ca) x (Mf.Oi.is hD5) hA5.ps (fun W g => ⟨Mf.Oi.is (g.own hD5 (by decide) (by decide)), Mf.Ow.ps (g.own hA5 (by decide) (by decide))⟩) (by have := HPL.out; have := HKL.out; have := HLN.out.1; omega)
     unfold Mf.GotB at CA
     have hst := HST.out
     rw [hr] at hst
     simp only at hst
     generalize Mf.ap ⟨K.map (·.2), f, n⟩ x = ra at CA hst
     have HS2 := Lib.hid hst
     have HW5 := Lib.hid hW5
     have HY5 := Lib.hid ((g5.block w.heap.size (lt_of_block HY4.out)).trans HY4.out)
     obtain ⟨e0, e1, e2, e3⟩ := Mf.EA.new w4 (.slice ad nd cd) (.slice aa na ca) x.floor x.next 37
     obtain ⟨XD, XA, XF, XN⟩ := x
     simp only at CA hw5 e0 e1 e2 e3 ⊢
     clear hr hD hA g5 hD5 hA5 hK5 hW5 hst HST
     go_wp2_with fail
     rw [← hw5]
     clear hw5 e0 e1 e2 e3
     with_reducible refine CA.mono ?_
     rintro e w6 ⟨hT6, ⟨hra, rfl⟩ | ⟨t6, K6, pl6, hra, rfl, hK6, hm6, hpl6⟩⟩
     ·have HN : Hid (RES = none) := Lib.hid (by rw [HS2.out, hra])
      have hw26 := HW5.out.trans hT6.below
      obtain ⟨⟨y0, y1, y2⟩, z0, z1, z2⟩ := Mf.three ((hw26.block w.heap.size (lt_of_block HY2.out)).trans HY2.out)
      have HF := Lib.hid (Mf.GotS.bad (r := RES) HN.out (Mf.below3 (q := w.heap.size) (HB2.out.trans (hw26.mono HB2.out.size)) (Nat.le_refl _) (.slice none 0 0) (.int .i64 0) (.int .i64 0)))
      clear hT6 hra hw26 CA
      go_wp2
      (try simp only [Exit.inBlock, Exit.then])
      refine bodyPost_ret (v := .tuple #[.agg #[.slice none 0 0, .int .i64 0, .int .i64 0], .int .i64 8]) ?_ rfl HF.out
      rw [results_cell_tmp rfl]
      go_simp
     ·have HN : Hid (RES = Mf.rp t6 (TS.drop (k + 1))) := Lib.hid (by rw [HS2.out, hra])
      have HK6 := Lib.hid hK6
      have HM6 := Lib.hid hm6
      have HW6 := Lib.hid (HW5.out.trans hT6.below)
      have HP6 : Hid (pl6 ≤ 1000 * (k + 1)) := Lib.hid (by have := HPL.out; omega)
      clear hT6 hra hK6 hm6 hpl6 CA
      go_wp2
      go_roundw
      case rel => exact ⟨k + 1, K6, pl6, t6.floor, t6.next, HKL.out, by simp, HK6.out, HW6.out, HP6.out, by rw [HM6.out]; exact HN.out⟩
      case measure => (have := HKL.out; simp [intOf]; omega)
   ·obtain rfl : k = TS.length := by omega
    have hki : ¬ (TS.length : Int) < (TS.length : Int) := by omega
    have HN : Hid (RES = some ⟨K.map (·.2), f, n⟩) := Lib.hid (by rw [hres, Mf.rp_end (by omega)])
    have CS := Mf.state_c hK (by have := HLN.out.1; omega)
    clear hk hkl hk0 hK hB hpl hres hyr
    go_wp2_with fail
    with_reducible refine CS.mono ?_
    rintro e w5 ⟨u, rfl, hu, hB5⟩
    have hw25 := HB.out.trans (hB5.mono HB.out.size)
    have hy5 := (hw25.block w.heap.size (lt_of_block HY2.out)).trans HY2.out
    obtain ⟨⟨y0, y1, y2⟩, z0, z1, z2⟩ := Mf.three hy5
    have hln := HLN.out.1
    obtain ⟨ua, un, uc, rfl⟩ : ∃ a n c, u = .slice a n c := hu.ps.form3
    have hbw := HB2.out.trans (hw25.mono HB2.out.size)
    have HPF := Lib.hid (World.ownsRow.mono (Mf.at_off hu hy5 (by decide) (Mf.heap3 w5 w.heap.size (.slice ua un uc) (.int .i64 f) (.int .i64 n))) (HB2.out.trans (HB.out.mono HB2.out.size)).size)
    have HBF := Lib.hid (Mf.below3 (q := w.heap.size) hbw (Nat.le_refl _) (.slice ua un uc) (.int .i64 f) (.int .i64 n))
    have HFF := Lib.hid (Mf.GotS.good (r := RES) HN.out HPF.out HBF.out)
    clear hu hB5 hw25 hy5 hbw CS
    unfold Mf.sv
    go_wp2
    (try simp only [Exit.inBlock, Exit.then])
    refine bodyPost_ret (v := .tuple #[.agg #[.slice ua un uc, .int .i64 f, .int .i64 n], .int .i64 0]) ?_ rfl HFF.out
    rw [results_cell_tmp rfl]
    go_simp
 ·have HN : Hid (RES = none) := Lib.hid (HRR.out.trans (if_neg (by decide)))
  obtain ⟨⟨y0, y1, y2⟩, z0, z1, z2⟩ := Mf.three hy2
  have HF := Lib.hid (Mf.GotS.bad (r := RES) HN.out (Mf.below3 (q := w.heap.size) HB2.out (Nat.le_refl _) (.slice none 0 0) (.int .i64 0) (.int .i64 0)))
  clear HE8 hy2
  simp only [Int.cast_ofNat_Int]
  go_wp2
  (try simp only [Exit.inBlock, Exit.then])
  refine bodyPost_ret (v := .tuple #[.agg #[.slice none 0 0, .int .i64 0, .int .i64 0], .int .i64 8]) ?_ rfl HF.out
  rw [results_cell_tmp rfl]
  go_simp
end
end Go.Proofs.YteaglaijkafphaaDoor
