import Derived.Test.YthfgcilaikjhpaaDoorYAAH
import Derived.Test.YthfgcilaikjhpaaDoorYAAJ
import Derived.Laws.Rows
import Derived.Laws.Tables
import Derived.Laws.CopyOwn
import Derived.Test.YthfgcilaikjhpaaDoorRows
import Derived.Test.YthfgcilaikjhpaaDoorLay
import Derived.WalkKit
import Derived.WalkSpells
import Derived.WalkLawsBesides
import Derived.Test.YthfgcilaikjhpaaDoorYAAC
import Derived.Test.YthfgcilaikjhpaaDoorYAAA
import Derived.Test.YthfgcilaikjhpaaDoorYAAI
namespace Go.Proofs.YthfgcilaikjhpaaDoor
section
open Go.RowKit
def Fr.half (j : Nat) : Value := .int .u32 ((Fr.Tn 4 j : Nat) : Int)
theorem Fr.nib (r : Nat) : Fr.Tn 4 r = r / 16 ^^^ Fr.Tn 4 (r % 16) := Fr.Tn_split 4 r
theorem Fr.Tn8 (r : Nat) : Fr.Tn 8 r = Fr.Tn 4 (Fr.Tn 4 r) := Fr.Tn_add 4 4 r
theorem Fr.nib_eq {X Y Z : Nat} (hX : X < 4294967296) (hY : Y = X / 16) (hZ : Z = X % 16) : bits .xor .u32 (Y : Int) ((Fr.Tn 4 Z : Nat) : Int) = ((Fr.Tn 4 X : Nat) : Int) := by
 have h : bits .xor .u32 (Y : Int) ((Fr.Tn 4 Z : Nat) : Int) = ((Y ^^^ Fr.Tn 4 Z : Nat) : Int) := u32_xor_nat _ _ (by omega) (Fr.Tn_lt (by omega))
 rw [h, hY, hZ, ← Fr.nib]
def Fr.zeros : Array Value := #[.int .u32 0, .int .u32 0, .int .u32 0, .int .u32 0, .int .u32 0, .int .u32 0, .int .u32 0, .int .u32 0, .int .u32 0, .int .u32 0, .int .u32 0, .int .u32 0, .int .u32 0, .int .u32 0, .int .u32 0, .int .u32 0]
def Fr.Tab (w : World) (g : Nat) : Prop := g < w.heap.size ∧ ∀ j, j < 16 → w.cell? ⟨g, j, none⟩ = some (.int .u32 ((Fr.Tn 4 j : Nat) : Int))
theorem Fr.Tab.kept {w w' : World} {g : Nat} (h : Fr.Tab w g) (b : Below w.heap.size w w') : Fr.Tab w' g := by
 refine ⟨Nat.lt_of_lt_of_le h.1 b.size, fun j hj => ?_⟩
 have := h.2 j hj
 unfold World.cell? at this ⊢
 rw [b.block g h.1]
 exact this
set_option maxHeartbeats 1000000 in
set_option maxRecDepth 100000 in
theorem Fr.half_c (g X : Nat) (hX : X < 4294967296) (w : World) (hT : Fr.Tab w g) :
 Calls Tryd.prog 84 #[.pointer (some ⟨g, 0, none⟩), .int .u32 (X : Int)] w fun e w' => e = .returned (.int .u32 ((Fr.Tn 4 X : Nat) : Int)) ∧ w' = w := by
 obtain ⟨Y, hY⟩ : ∃ Y, Y = X / 16 := ⟨_, rfl⟩
 obtain ⟨Z, hZ⟩ : ∃ Z, Z = X % 16 := ⟨_, rfl⟩
 have hd : (X : Int) / 16 = (Y : Int) := by omega
 have ha : bits .and .u32 (X : Int) 15 = (Z : Int) := by
  have := u32_and_nat X 15 hX (by decide)
  refine this.trans ?_
  rw [hZ, show (15 : Nat) = 2 ^ 4 - 1 from rfl, Nat.and_two_pow_sub_one_eq_mod]
 have hZ16 : Z < 16 := by omega
 have hZi : (Z : Int) < 16 := by omega
 have hZ0 : (0 : Int) ≤ (Z : Int) := by omega
 have c0 := hT.2 Z hZ16
 have hn := Fr.nib_eq hX hY hZ
 generalize Fr.Tn 4 Z = U at c0 hn
 generalize Fr.Tn 4 X = X1 at hn ⊢
 clear hY hZ hT
 go_enter Tryd.func84, Tryd.ntmps84
 go_wp2
 go_ret
 exact ⟨rfl, rfl⟩
set_option maxHeartbeats 1000000 in
set_option maxRecDepth 100000 in
theorem Fr.steps_c (w : World) : Calls Tryd.prog 49 #[] w fun e w' => ∃ g, e = .returned (.pointer (some ⟨g, 0, none⟩)) ∧ Fr.Tab w' g ∧ Below w.heap.size w w' := by
 have hb2 : Below w.heap.size w (w.alloc (.cells Fr.zeros 108)) := (Below.refl _ w).alloc (Nat.le_refl _) _
 have h1 : (w.alloc (.cells Fr.zeros 108)).rowIs w.heap.size 108 16 (Bt.upTo 0 Fr.half (.int .u32 0)) := by
  refine ⟨Fr.zeros, heap_alloc_new w (.cells Fr.zeros 108), rfl, fun i hi => ?_⟩
  have e : Bt.upTo 0 Fr.half (.int .u32 0) i = .int .u32 0 := by unfold Bt.upTo; rw [if_neg (by omega)]
  rw [e]
  rcases (by omega : i = 0 ∨ i = 1 ∨ i = 2 ∨ i = 3 ∨ i = 4 ∨ i = 5 ∨ i = 6 ∨ i = 7 ∨ i = 8 ∨ i = 9 ∨ i = 10 ∨ i = 11 ∨ i = 12 ∨ i = 13 ∨ i = 14 ∨ i = 15) with rfl | rfl | rfl | rfl | rfl | rfl | rfl | rfl | rfl | rfl | rfl | rfl | rfl | rfl | rfl | rfl <;> rfl
 have HLT : Hid (∀ j k, k < 16 → Fr.Tn j k < 4294967296) := Lib.hid fun j k hk => Fr.Tn_lt (by omega)
 have HB2 := Lib.hid hb2
 have H1 := Lib.hid h1
 clear hb2 h1
 go_enter Tryd.func49, Tryd.ntmps49
 go_wp2
 change Code.wp _ _ _ _ (w.alloc (.cells Fr.zeros 108))
 generalize w.alloc (.cells Fr.zeros 108) = w2 at HB2 H1 ⊢
 go_loopw [7] (fun i wr => ∃ k : Nat, k ≤ 16 ∧ i = .int .i64 k ∧ wr.rowIs w.heap.size 108 16 (Bt.upTo k Fr.half (.int .u32 0)) ∧ Below w.heap.size w wr) (fun i _ => 16 - (intOf i).toNat)
 case atStart => exact ⟨0, by omega, rfl, H1.out, HB2.out⟩
 case round =>
  obtain ⟨k, hk, rfl, hR, hB⟩ := hrel
  have HR := Lib.hid hR
  have HB := Lib.hid hB
  clear hR hB HB2 H1
  have hk0 : (0 : Int) ≤ (k : Int) := by omega
  by_cases hl : k < 16
  ·have hki : (k : Int) < 16 := by omega
   have HTL : Hid (∀ j, Fr.Tn j k < 4294967296) := Lib.hid fun j => HLT.out j k hl
   have HHF : Hid (Fr.half k = .int .u32 ((Fr.Tn 4 k : Nat) : Int)) := Lib.hid rfl
   go_wp2_with fail
   go_loop [3, 4, 12] (fun r o j => ∃ i : Nat, i ≤ 4 ∧ j = .int .i64 i ∧ r = .int .u32 (Fr.Tn i k : Nat)) (fun _ _ j => 4 - (intOf j).toNat)
   case atStart => exact ⟨0, by omega, rfl, rfl⟩
   case round =>
    obtain ⟨i, hi, rfl, rfl⟩ := hrel
    have hi0 : (0 : Int) ≤ (i : Int) := by omega
    by_cases hi4 : i < 4
    ·have hii : (i : Int) < 4 := by omega
     have hT := HTL.out i
     have HTN := Lib.hid (Fr.Tn_last i k)
     generalize Fr.Tn i k = Y at hT HTN ⊢
     obtain ⟨Z, hZ⟩ : ∃ Z, Z = Y / 2 := ⟨_, rfl⟩
     have hd : (Y : Int) / 2 = (Z : Int) := by omega
     have hZl : Z < 4294967296 := by omega
     have hand : bits .and .u32 (Y : Int) 1 = ((Y % 2 : Nat) : Int) := by
      have := u32_and_nat Y 1 hT (by decide)
      rwa [Nat.and_one_is_mod] at this
     rcases Nat.mod_two_eq_zero_or_one Y with hm | hm
     ·rw [hm] at hand
      have HE := Lib.hid (HTN.out.trans (Fr.T_even hm))
      rw [← hZ] at HE
      clear hZ hm
      go_wp2
      go_round
      case rel => exact ⟨i + 1, by omega, by simp, by rw [HE.out]⟩
      case measure => simp [intOf]; omega
     ·rw [hm] at hand
      have HE := Lib.hid (HTN.out.trans (Fr.T_odd hm))
      rw [← hZ] at HE
      have hx2 : bits .xor .u32 (Z : Int) 2197175160 = ((Z ^^^ 2197175160 : Nat) : Int) := u32_xor_nat Z 2197175160 hZl (by decide)
      clear hZ hm
      go_wp2
      go_round
      case rel => exact ⟨i + 1, by omega, by simp, by rw [HE.out]⟩
      case measure => simp [intOf]; omega
    ·obtain rfl : i = 4 := by omega
     have c0 := HR.out.cell hl
     have f0 := HR.out.frozen k
     go_wp2
     go_roundw
     case rel => exact ⟨k + 1, by omega, by simp, Bt.upTo_next HR.out rfl, HB.out.trans (Bt.below_set (Nat.le_refl _) _)⟩
     case measure => simp [intOf]; omega
  ·obtain rfl : k = 16 := by omega
   have hall : Fr.Tab wr w.heap.size := ⟨HR.out.lt, fun j hj => by
    have hc := HR.out.cell hj
    rw [hc]
    unfold Bt.upTo
    rw [if_pos hj]
    rfl⟩
   have HA := Lib.hid hall
   clear hall
   have h16 : (16 : Int) < 16 ↔ False := by simp
   go_wp2
   go_ret
   exact ⟨_, rfl, HA.out, HB.out⟩
end
section
open Go.RowKit
set_option maxHeartbeats 1000000 in
set_option maxRecDepth 100000 in
theorem Fr.tsum_c (g : Nat) (s : ByteArray) (hs : s.size ≤ 140737488355328) (w : World) (hT : Fr.Tab w g) :
 Calls Tryd.prog 61 #[.pointer (some ⟨g, 0, none⟩), .string s] w fun e w' => e = .returned (.int .u32 ((Fr.sum s.data.toList : Nat) : Int)) ∧ w' = w := by
 have HS := Lib.hid hs
 have HST : Hid (∀ k (h : k < s.size), Fr.reg Fr.ones (s.data.toList.take (k + 1)) = Fr.Tn 8 (Fr.reg Fr.ones (s.data.toList.take k) ^^^ (s[k]).toNat)) := Lib.hid fun k h => Fr.reg_step h _
 have HLT : Hid (∀ l, Fr.reg Fr.ones l < 4294967296) := Lib.hid fun l => Fr.reg_lt l Fr.ones (by decide)
 have HC : Hid (∀ X : Nat, X < 4294967296 → Calls Tryd.prog 84 #[.pointer (some ⟨g, 0, none⟩), .int .u32 (X : Int)] w fun e w' => e = .returned (.int .u32 ((Fr.Tn 4 X : Nat) : Int)) ∧ w' = w) := Lib.hid fun X hX => Fr.half_c g X hX w hT
 clear hs hT
 go_enter Tryd.func61, Tryd.ntmps61
 go_wp2
 go_loop [5, 6, 9] (fun r x i => ∃ k : Nat, k ≤ s.size ∧ i = .int .i64 k ∧ r = .int .u32 (Fr.reg Fr.ones (s.data.toList.take k) : Nat)) (fun _ _ i => s.size - (intOf i).toNat)
 case atStart => exact ⟨0, by omega, rfl, rfl⟩
 case round =>
  obtain ⟨k, hk, rfl, rfl⟩ := hrel
  have hk0 : (0 : Int) ≤ (k : Int) := by omega
  have hr := HLT.out (s.data.toList.take k)
  by_cases hl : k < s.size
  ·have hki : (k : Int) < (s.size : Int) := by omega
   have hks : (k : Int) < 9223372036854775807 := by have := HS.out; omega
   have HN := Lib.hid (HST.out k hl)
   have hb := (s[k]).toNat_lt
   generalize Fr.reg Fr.ones (s.data.toList.take k) = R at hr HN ⊢
   generalize hbb : s[k] = b at hb HN
   obtain ⟨X, hX⟩ : ∃ X, X = R ^^^ b.toNat := ⟨_, rfl⟩
   have hx : bits .xor .u32 (R : Int) (b.toNat : Int) = (X : Int) := by rw [hX]; exact u32_xor_nat R b.toNat hr (by omega)
   have hXl : X < 4294967296 := by rw [hX]; exact Nat.xor_lt_two_pow (n := 32) hr (by omega)
   rw [← hX, Fr.Tn8] at HN
   have c1 := HC.out X hXl
   have hX1l : Fr.Tn 4 X < 4294967296 := Fr.Tn_lt hXl
   generalize Fr.Tn 4 X = X1 at c1 hX1l HN
   have c2 := HC.out X1 hX1l
   generalize Fr.Tn 4 X1 = X2 at c2 HN
   clear hX
   go_wp2_with fail
   with_reducible refine c1.mono ?_
   rintro e w1 ⟨rfl, h1⟩
   subst w1
   clear c1
   go_wp2_with fail
   with_reducible refine c2.mono ?_
   rintro e w1 ⟨rfl, h1⟩
   subst w1
   clear c2
   go_wp2
   go_round
   case rel => exact ⟨k + 1, by omega, by simp, by rw [HN.out]⟩
   case measure => simp [intOf]; omega
  ·obtain rfl : k = s.size := by omega
   have hki : ¬ (s.size : Int) < (s.size : Int) := by omega
   have hta : s.data.toList.take s.size = s.data.toList := List.take_of_length_le (by rw [Ty.length_data]; exact Nat.le_refl _)
   have HSM : Hid (Fr.sum s.data.toList = Fr.reg Fr.ones (s.data.toList.take s.size) ^^^ 4294967295) := Lib.hid (by rw [hta]; rfl)
   generalize Fr.reg Fr.ones (s.data.toList.take s.size) = R at hr HSM ⊢
   have hx : bits .xor .u32 IntKind.u32.max (R : Int) = ((4294967295 ^^^ R : Nat) : Int) := u32_xor_nat 4294967295 R (by decide) hr
   go_wp2
   go_ret
   exact ⟨by rw [HSM.out, Nat.xor_comm]; rfl, rfl⟩
set_option maxHeartbeats 1000000 in
set_option maxRecDepth 100000 in
theorem Fr.four_c (n : Nat) (hn : n < 4294967296) (w : World) :
 Calls Tryd.prog 33 #[.int .u32 (n : Int)] w fun e w' => e = .returned (.string (Ty.S (Fr.four n))) ∧ Below w.heap.size w w' := by
 have hcv := (Fr.four_buf n hn w).str
 go_enter Tryd.func33, Tryd.ntmps33
 go_wp2
 go_ret
 exact ⟨rfl, (Below.refl _ _).alloc (Nat.le_refl _) _⟩
end
section
open Go.RowKit
def Fr.fst (l : List UInt8) : List UInt8 × Nat :=
 if l.length < 4 then ([], 2) else if 1048576 < Fr.val (l.take 4) then ([], 8) else if l.length < Fr.val (l.take 4) + 8 then ([], 2)
 else if Fr.val ((l.drop (4 + Fr.val (l.take 4))).take 4) ≠ Fr.sum ((l.drop 4).take (Fr.val (l.take 4))) then ([], 8) else ((l.drop 4).take (Fr.val (l.take 4)), 0)
theorem Fr.Mid.fst {l : List UInt8} {a : Nat} {L : List Fr.Str} (h : Fr.Mid l a L) :
 ((Fr.fst (l.drop a)).2 = 2 ∧ Fr.scan l = (0, L, a)) ∨ ((Fr.fst (l.drop a)).2 = 8 ∧ Fr.scan l = (8, [], 0)) ∨
 ((Fr.fst (l.drop a)).2 = 0 ∧ (Fr.fst (l.drop a)).1.length ≤ 1048576 ∧ a + ((Fr.fst (l.drop a)).1.length + 8) ≤ l.length ∧ Fr.Mid l (a + ((Fr.fst (l.drop a)).1.length + 8)) (L ++ [(Fr.fst (l.drop a)).1])) := by
 by_cases h4 : (l.drop a).length < 4
 ·have e : Fr.fst (l.drop a) = ([], 2) := if_pos h4
  rw [e]
  exact .inl ⟨rfl, h.short h4⟩
 ·by_cases hb : 1048576 < Fr.val ((l.drop a).take 4)
  ·have e : Fr.fst (l.drop a) = ([], 8) := (if_neg h4).trans (if_pos hb)
   rw [e]
   exact .inr (.inl ⟨rfl, h.big h4 hb⟩)
  ·by_cases ht : (l.drop a).length < Fr.val ((l.drop a).take 4) + 8
   ·have e : Fr.fst (l.drop a) = ([], 2) := (if_neg h4).trans ((if_neg hb).trans (if_pos ht))
    rw [e]
    exact .inl ⟨rfl, h.torn h4 hb ht⟩
   ·by_cases hs : Fr.val (((l.drop a).drop (4 + Fr.val ((l.drop a).take 4))).take 4) = Fr.sum (((l.drop a).drop 4).take (Fr.val ((l.drop a).take 4)))
    ·have e : Fr.fst (l.drop a) = (((l.drop a).drop 4).take (Fr.val ((l.drop a).take 4)), 0) := (if_neg h4).trans ((if_neg hb).trans ((if_neg ht).trans (if_neg (fun h => h hs))))
     have hlen : (l.drop a).length = l.length - a := List.length_drop
     have hk : (((l.drop a).drop 4).take (Fr.val ((l.drop a).take 4))).length = Fr.val ((l.drop a).take 4) := by
      rw [List.length_take, List.length_drop]; omega
     have hn := h.next h4 hb ht hs
     have := h.1
     rw [e]
     refine .inr (.inr ⟨rfl, ?_⟩)
     rw [show (((l.drop a).drop 4).take (Fr.val ((l.drop a).take 4)), (0 : Nat)).1 = ((l.drop a).drop 4).take (Fr.val ((l.drop a).take 4)) from rfl, hk]
     exact ⟨by omega, by omega, hn⟩
    ·have e : Fr.fst (l.drop a) = ([], 8) := (if_neg h4).trans ((if_neg hb).trans ((if_neg ht).trans (if_pos hs)))
     rw [e]
     exact .inr (.inl ⟨rfl, h.wrong h4 hb ht hs⟩)
end
section
open Go.RowKit Go.Shelf
end
section
open Go.RowKit
def Fr.W (w : World) : Prop := w = w
theorem Fr.W.below {w w' : World} (_ : Fr.W w) (_ : Below w.heap.size w w') : Fr.W w' := rfl
set_option maxHeartbeats 1000000 in
set_option maxRecDepth 100000 in
theorem Fr.sum_c (s : ByteArray) (hs : s.size ≤ 140737488355328) (w : World) (_ : Fr.W w) :
 Calls Tryd.prog 34 #[.string s] w fun e w' => e = .returned (.int .u32 ((Fr.sum s.data.toList : Nat) : Int)) ∧ Below w.heap.size w w' := by
 have c1 := Fr.steps_c w
 have C2 : Hid (∀ g wz, Fr.Tab wz g → Calls Tryd.prog 61 #[.pointer (some ⟨g, 0, none⟩), .string s] wz fun e w' => e = .returned (.int .u32 ((Fr.sum s.data.toList : Nat) : Int)) ∧ w' = wz) := Lib.hid fun g wz h => Fr.tsum_c g s hs wz h
 generalize Fr.sum s.data.toList = M at C2 ⊢
 clear hs
 go_enter Tryd.func34, Tryd.ntmps34
 go_wp2_with fail
 with_reducible refine c1.mono ?_
 rintro e w1 ⟨g, rfl, hT, g1⟩
 have c2 := C2.out g w1 hT
 have HB := Lib.hid g1
 clear c1 C2 hT g1
 go_wp2_with fail
 with_reducible refine c2.mono ?_
 rintro e w2 ⟨rfl, h2⟩
 subst w2
 clear c2
 go_wp2
 go_ret
 exact ⟨rfl, HB.out⟩
set_option maxHeartbeats 2000000 in
set_option maxRecDepth 100000 in
theorem Fr.write_c (s : ByteArray) (hs : s.size ≤ 140737488355328) (w : World) (_ : Fr.W w) :
 Calls Tryd.prog 16 #[.string s] w fun e w' => e = .returned (.string (Ty.S (Fr.frm s.data.toList))) ∧ Below w.heap.size w w' := by
 have hN : s.size % 4294967296 < 4294967296 := Nat.mod_lt _ (by decide)
 have hww : IntKind.u32.wrap (s.size : Int) = ((s.size % 4294967296 : Nat) : Int) := by rw [IntKind.wrap_u32]; omega
 have c1 := fun wz => Fr.four_c (s.size % 4294967296) hN wz
 have c2 := fun wz => Fr.sum_c s hs wz (by rfl)
 have c3 := fun wz => Fr.four_c (Fr.sum s.data.toList) (Fr.sum_lt _) wz
 have HF : Hid (Ty.S (Fr.frm s.data.toList) = (Ty.S (Fr.four (s.size % 4294967296)) ++ s) ++ Ty.S (Fr.four (Fr.sum s.data.toList))) := Lib.hid (by
  unfold Fr.frm
  rw [Fr.four_mod, Ty.length_data]
  conv => rhs; lhs; rhs; rw [← Ty.S_data s]
  rw [Fr.S_add, Fr.S_add, List.append_assoc])
 have e1 : (Ty.S (Fr.four (s.size % 4294967296))).size = 4 := rfl
 have e3 : (Ty.S (Fr.four (Fr.sum s.data.toList))).size = 4 := rfl
 obtain ⟨A, hA⟩ : ∃ A, A = Ty.S (Fr.four (s.size % 4294967296)) := ⟨_, rfl⟩
 obtain ⟨B, hB⟩ : ∃ B, B = Ty.S (Fr.four (Fr.sum s.data.toList)) := ⟨_, rfl⟩
 rw [← hA] at c1 HF e1
 rw [← hB] at c3 HF e3
 generalize Fr.sum s.data.toList = M at c2 c3
 generalize s.size % 4294967296 = N at c1 hww
 have n1 : ¬ 9223372036854775807 < A.size + s.size := by omega
 have n2 : ¬ 9223372036854775807 < A.size + s.size + B.size := by omega
 clear hA hB e1 e3 hN
 go_enter Tryd.func16, Tryd.ntmps16
 go_wp2_with fail
 with_reducible refine (c1 _).mono ?_
 rintro e w1 ⟨rfl, g1⟩
 have HB1 := Lib.hid g1
 clear g1 c1
 go_wp2_with fail
 with_reducible refine (c2 _).mono ?_
 rintro e w2 ⟨rfl, g2⟩
 have HB2 := Lib.hid (HB1.out.trans (g2.mono HB1.out.size))
 clear c2 g2 HB1
 go_wp2_with fail
 with_reducible refine (c3 _).mono ?_
 rintro e w3 ⟨rfl, g3⟩
 have HB3 := Lib.hid (HB2.out.trans (g3.mono HB2.out.size))
 clear g3 c3
 go_wp2
 go_ret
 exact ⟨by rw [HF.out]; rfl, HB3.out⟩
end
section
open Go.RowKit
theorem Mf.tabs_grew {w w' : World} {v v' : Value} {base : Nat} {bs : List UInt8} (h : Ty.Tabs w) (hg : Ty.Grew w w' v v') (hb : Ty.Buf base w v bs) (hG : Ty.G ≤ base) : Ty.Tabs w' :=
 Ty.Tabs.by h hg.by_ fun k hk => Nat.le_trans hG (World.ownsRow.lt hb k hk).1
theorem Mf.at_grew {α : Type} {k : Nat} {enc : α → List Value} {w w' : World} {v u u' : Value} {L : List α} (h : Mf.At k enc w v L) (hoff : L ≠ [] → ∀ b, v.ownBlock = some b → u.ownBlock ≠ some b) (g : Ty.Grew w w' u u') : Mf.At k enc w' v L :=
 h.stay fun hL b hb hlt => g.by_.block b hlt (fun e => hoff hL b hb e.symm)
theorem Mf.is_one (w : World) (x : Int) : Mf.Is (w.alloc (.cells #[.int .i64 x] 3)) (.slice (some ⟨w.heap.size, 0, none⟩) 1 1) [x] :=
 ⟨_, _, rfl, Nat.le_refl _, .inr ⟨_, 0, _, (3, (0, 0)), rfl, trivial, heap_alloc_new w _, fun i j y hi hj => by
  match i, j, hi, hj with
  | 0, 0, hi, _ =>
    obtain rfl : x = y := by simpa using hi
    exact Kn.cell_new w _ _ 0 _ rfl⟩⟩
theorem Mf.is_two (w : World) (x y : Int) : Mf.Is (w.alloc (.cells #[.int .i64 x, .int .i64 y] 3)) (.slice (some ⟨w.heap.size, 0, none⟩) 2 2) [x, y] :=
 ⟨_, _, rfl, Nat.le_refl _, .inr ⟨_, 0, _, (3, (0, 0)), rfl, trivial, heap_alloc_new w _, fun i j z hi hj => by
  match i, j, hi, hj with
  | 0, 0, hi, _ =>
    obtain rfl : x = z := by simpa using hi
    exact Kn.cell_new w _ _ 0 _ rfl
  | 1, 0, hi, _ =>
    obtain rfl : y = z := by simpa using hi
    exact Kn.cell_new w _ _ 1 _ rfl⟩⟩
theorem Mf.flat_take {α : Type} {L : List α} {f : α → List UInt8} {k : Nat} {x : α} (h : L[k]? = some x) : (L.take (k + 1)).flatMap f = (L.take k).flatMap f ++ f x := by
 obtain ⟨hk, rfl⟩ := List.getElem?_eq_some_iff.1 h
 rw [List.take_succ_eq_append_getElem hk, List.flatMap_append]
 simp
theorem Mf.encN_flat (L : List Int) : (L.flatMap Mf.encN).length ≤ L.length * 9 := Mf.flat_len L fun x _ => Mf.encN_len x
theorem Mf.take_flat (L : List Int) (k : Nat) : ((L.take k).flatMap Mf.encN).length ≤ L.length * 9 := by
 have h1 := Mf.encN_flat (L.take k)
 have h2 : (L.take k).length ≤ L.length := by rw [List.length_take]; omega
 have := Nat.mul_le_mul_right 9 h2
 omega
set_option maxHeartbeats 2000000 in
set_option maxRecDepth 100000 in
theorem Mf.appNums_c (base : Nat) (v : Value) (bs : List UInt8) (u : Value) (L : List Int) (w : World) (hT : Ty.Tabs w) (hG : Ty.G ≤ base) (hown : Ty.Buf base w v bs) (hb : base ≤ w.heap.size) (hL : Mf.Is w u L) (hoff : L ≠ [] → ∀ b, u.ownBlock = some b → v.ownBlock ≠ some b) (hx : ∀ x ∈ L, 0 ≤ x ∧ x ≤ 9223372036854775807) (hn : L.length ≤ 1000000000) (hl : bs.length ≤ 100000000000) :
 Calls Tryd.prog 35 #[v, u] w (Ty.Written base w v (bs ++ L.flatMap Mf.encN)) := by
 have HL := Lib.hid hL
 have HOFF := Lib.hid hoff
 have HT := Lib.hid hT
 have HO := Lib.hid hown
 have HGB := Lib.hid hG
 have HB := Lib.hid hb
 have HX := Lib.hid hx
 have HN : Hid (L.length ≤ 1000000000 ∧ bs.length ≤ 100000000000) := Lib.hid ⟨hn, hl⟩
 obtain ⟨a, c, rfl, -, -⟩ := hL
 have hln : (L.length : Int) ≤ 1000000000 := by omega
 clear hT hG hown hb hx hn hl hoff
 go_enter Tryd.func35, Tryd.ntmps35
 go_wp2
 go_loopw [0, 9] (fun r i wr => ∃ k : Nat, k ≤ L.length ∧ i = .int .i64 k ∧ Ty.Buf base wr r (bs ++ (L.take k).flatMap Mf.encN) ∧ Ty.Grew w wr v r) (fun _ i _ => L.length - (intOf i).toNat)
 case atStart => exact ⟨0, Nat.zero_le _, rfl, by simpa using HO.out, Ty.Grew.refl _ _⟩
 case round =>
  obtain ⟨k, hk, rfl, hB, hg⟩ := hrel
  have HBR := Lib.hid hB
  have HGR := Lib.hid hg
  have hk0 : (0 : Int) ≤ (k : Int) := by omega
  by_cases hkl : k < L.length
  ·have hx := List.getElem?_eq_getElem hkl
   have hmem := List.getElem_mem hkl
   generalize L[k] = x at hx hmem
   obtain ⟨x0, x1⟩ := HX.out x hmem
   obtain ⟨a', c', e, -, hc⟩ := Mf.at_grew HL.out HOFF.out hg
   simp only [Value.slice.injEq, true_and] at e
   obtain ⟨rfl, rfl⟩ := e
   rcases hc with ⟨h0, -⟩ | ⟨b, o, cs, fr, rfl, -, hbb, hc⟩
   ·rw [h0] at hkl; simp at hkl
   have c0 := Mf.Is.num hc hx
   have HTX := Lib.hid (Mf.flat_take (f := Mf.encN) hx)
   have hki : (k : Int) < (L.length : Int) := by omega
   have hwx : IntKind.u64.wrap x = x := by rw [IntKind.wrap_u64]; omega
   have cu := Ty.uint_c base _ _ x x0 (by unfold Ty.U64; omega) wr (Mf.tabs_grew HT.out hg HO.out HGB.out) hB (Nat.le_trans HB.out hg.by_.size) (by have := Mf.take_flat L k; have := HN.out; simp only [List.length_append]; omega)
   clear hbb hc hx hmem hB hg
   go_wp2_with fail
   with_reducible refine cu.mono ?_
   rintro e w2 ⟨v2, rfl, h2, g2⟩
   have H2 := Lib.hid h2
   have G2 := Lib.hid (HGR.out.trans g2)
   clear h2 g2 cu
   go_wp2
   go_roundw
   case rel => exact ⟨k + 1, by omega, by simp, by rw [HTX.out, ← List.append_assoc]; exact H2.out, G2.out⟩
   case measure => simp [intOf]; omega
  ·obtain rfl : k = L.length := by omega
   have hki : ¬ (L.length : Int) < (L.length : Int) := by omega
   rw [List.take_length] at hB
   have HB9 := Lib.hid hB
   clear hk hkl hB hg
   go_wp2
   go_ret
   exact ⟨_, rfl, HB9.out, HGR.out⟩
set_option maxHeartbeats 2000000 in
set_option maxRecDepth 100000 in
theorem Mf.appBound_c (base : Nat) (v : Value) (bs : List UInt8) (x : Kn.V) (w : World) (hT : Ty.Tabs w) (hG : Ty.G ≤ base) (hown : Ty.Buf base w v bs) (hb : base ≤ w.heap.size) (hi : Ty.I64 x.n) (hk : Mf.key x = true) (hl : bs.length ≤ 100000000000) :
 Calls Tryd.prog 36 #[v, x.val] w (Ty.Written base w v (bs ++ Mf.encV x)) := by
 have hz : x.s.size ≤ 64 := by unfold Mf.key at hk; simp only [Bool.and_eq_true, decide_eq_true_iff] at hk; exact hk.2
 have HE : Hid (bs ++ Mf.encV x = bs ++ Ty.encU (Ty.zig x.n).toNat ++ Ty.encU x.s.size ++ x.s.data.toList) := Lib.hid (by unfold Mf.encV Ig.encI Tx.encT; rw [Ty.length_data]; simp [List.append_assoc])
 rw [HE.out]
 have h9 : (Ty.encU (Ty.zig x.n).toNat).length ≤ 9 := Ty.encU_len9 _
 obtain ⟨v0, v1, v2⟩ := Kn.At.new w x 43
 have hA : Below w.heap.size w (w.alloc (.cells #[.bool x.null, .int .i64 x.n, .string x.s] 43)) := (Below.refl _ _).alloc (Nat.le_refl _) _
 have hT1 := Ty.Tabs.below hT hA (Ty.Tabs.two hT)
 have ho1 : Ty.Buf base (w.alloc (.cells #[.bool x.null, .int .i64 x.n, .string x.s] 43)) v bs := World.ownsRow.alloc hown _
 have hA1 : Below w.heap.size w (w.alloc (.cells #[.bool x.null, .int .i64 x.n, .string x.s] 43)) := hA
 have HV : Hid (∀ k, v.ownBlock = some k → k < w.heap.size) := Lib.hid fun k hk => (World.ownsRow.lt hown k hk).2
 have HBH : Hid (∀ (w' : World) (v' : Value), Ty.Grew (w.alloc (.cells #[.bool x.null, .int .i64 x.n, .string x.s] 43)) w' v v' → Ty.Grew w w' v v') := Lib.hid fun w' v' h => h.behind _
 have hsz : base ≤ (w.alloc (.cells #[.bool x.null, .int .i64 x.n, .string x.s] 43)).heap.size := by have := hA.size; omega
 have hlt : w.heap.size < (w.alloc (.cells #[.bool x.null, .int .i64 x.n, .string x.s] 43)).heap.size := by simp
 obtain ⟨xn, xi, xs⟩ := x
 unfold Kn.V.val
 simp only at v0 v1 v2 hz h9 hT1 ho1 hsz HBH hlt hi ⊢
 have HI := Lib.hid hi
 have HG := Lib.hid hG
 have HL := Lib.hid hl
 clear hT hown hb hk hl hA hA1 HE hG hi
 go_enter Tryd.func36, Tryd.ntmps36
 go_wp2_with fail
 generalize hwo : w.alloc _ = w1 at v0 v1 v2 hT1 ho1 hsz HBH hlt ⊢
 clear hwo
 have hT2 : Ty.Tabs w1.drew := hT1.drew
 have ho2 : Ty.Buf base w1.drew v bs := ho1
 have CI := Lib.hid (Ty.int_c base v bs xi HI.out w1.drew hT2 ho2 hsz (by have := HL.out; omega))
 have CT : Hid (∀ (W : World) (u : Value), Ty.Grew w1.drew W v u → Ty.Buf base W u (bs ++ Ty.encU (Ty.zig xi).toNat) → _) := Lib.hid fun W u g hu => Ty.text_c base u (bs ++ Ty.encU (Ty.zig xi).toNat) xs W (Mf.tabs_grew hT2 g ho2 HG.out) hu (Nat.le_trans hsz g.by_.size) (by have := HL.out; simp only [List.length_append]; omega)
 have HK : Hid (∀ (W : World) (u : Value), Ty.Grew w1.drew W v u → W.cell? ⟨w.heap.size, 1, none⟩ = some (.int .i64 xi) ∧ W.cell? ⟨w.heap.size, 2, none⟩ = some (.string xs)) := Lib.hid fun W u g => by
  have hn : some w.heap.size ≠ v.ownBlock := fun e => by have := HV.out _ e.symm; omega
  exact ⟨g.by_.cell v1 hn, g.by_.cell v2 hn⟩
 have HS0 : Hid (w1.drew.cell? ⟨w.heap.size, 1, none⟩ = some (.int .i64 xi) ∧ w1.drew.cell? ⟨w.heap.size, 2, none⟩ = some (.string xs)) := Lib.hid ⟨v1, v2⟩
 clear hT1 ho1 hT2 ho2 h9 hz v0 v1 v2
 go_region_held3 (fun W => W.cell? ⟨w.heap.size, 1, none⟩ = some (.int .i64 xi) ∧ W.cell? ⟨w.heap.size, 2, none⟩ = some (.string xs))
  (first
   | exact HS0.out
   | exact HK.out _ _ hGy
   | exact HK.out _ _ (hGy.trans hGz))
  (first
   | (go_at_call 64; (with_reducible refine CI.out.mono ?_); rintro e wy ⟨vy, rfl, hBy, hGy⟩)
   | (go_at_call 63; (with_reducible refine (CT.out _ _ hGy hBy).mono ?_); rintro e wz ⟨vz, rfl, hBz, hGz⟩))
 go_wp2
 go_ret
 exact ⟨vz, rfl, hBz, HBH.out _ _ (hGy.trans hGz).drawn⟩
end
section
open Go.RowKit
theorem Mf.is_lt {w : World} {v : Value} {L : List Int} (h : Mf.Is w v L) (hL : L ≠ []) {b : Nat} (hb : v.ownBlock = some b) : b < w.heap.size := by
 unfold Mf.Is at h
 exact h.lt hL hb
structure Mf.EW (w1 wr : World) (u : Value) (bs : List UInt8) : Prop where
 buf : Ty.Buf w1.heap.size wr u bs
 below : Below w1.heap.size w1 wr
theorem Mf.EW.next {w1 wr wy w' : World} {u u' : Value} {bs bs' : List UInt8} (h : Mf.EW w1 wr u bs) (g : Below wr.heap.size wr wy) (hg : Ty.Grew wy w' u u') (hb : Ty.Buf w1.heap.size w' u' bs') : Mf.EW w1 w' u' bs' :=
 ⟨hb, (h.below.trans (g.mono h.below.size)).trans (hg.below (Nat.le_trans h.below.size g.size) fun k hk => (World.ownsRow.lt h.buf k hk).1)⟩
theorem Mf.EW.nums {w1 wr wy : World} {u x : Value} {bs : List UInt8} {L : List Int} (h : Mf.EW w1 wr u bs) (hT : Ty.Tabs w1) (g : Below wr.heap.size wr wy) (hL : Mf.Is wy x L) (hoff : L ≠ [] → ∀ b, x.ownBlock = some b → u.ownBlock ≠ some b) (hx : ∀ x ∈ L, 0 ≤ x ∧ x ≤ 9223372036854775807) (hn : L.length ≤ 1000000000) (hl : bs.length ≤ 100000000000) :
 Calls Tryd.prog 35 #[u, x] wy fun e w' => ∃ u', e = .returned u' ∧ Mf.EW w1 w' u' (bs ++ L.flatMap Mf.encN) ∧ Ty.Grew wy w' u u' :=
 (Mf.appNums_c w1.heap.size u bs x L wy (hT.below (h.below.trans (g.mono h.below.size)) (Ty.Tabs.two hT)) (Ty.Tabs.two hT) (h.buf.later g) (Nat.le_trans h.below.size g.size) hL hoff hx hn hl).mono fun _ _ ⟨u', e1, hb, hg⟩ => ⟨u', e1, h.next g hg hb, hg⟩
theorem Mf.EW.bound {w1 wr wy : World} {u : Value} {bs : List UInt8} {x : Kn.V} (h : Mf.EW w1 wr u bs) (hT : Ty.Tabs w1) (g : Below wr.heap.size wr wy) (hi : Ty.I64 x.n) (hk : Mf.key x = true) (hl : bs.length ≤ 100000000000) :
 Calls Tryd.prog 36 #[u, x.val] wy fun e w' => ∃ u', e = .returned u' ∧ Mf.EW w1 w' u' (bs ++ Mf.encV x) ∧ Ty.Grew wy w' u u' :=
 (Mf.appBound_c w1.heap.size u bs x wy (hT.below (h.below.trans (g.mono h.below.size)) (Ty.Tabs.two hT)) (Ty.Tabs.two hT) (h.buf.later g) (Nat.le_trans h.below.size g.size) hi hk hl).mono fun _ _ ⟨u', e1, hb, hg⟩ => ⟨u', e1, h.next g hg hb, hg⟩
theorem Mf.pa_grew {w w' : World} {u u' : Value} {q o : Nat} {p : Mf.P} (h : Mf.PA w q o p) (g : Ty.Grew w w' u u') (hn : u.ownBlock ≠ some q) : Mf.PA w' q o p ∧ u'.ownBlock ≠ some q := by
 have hs : ∀ i, w'.cell? ⟨q, i, none⟩ = w.cell? ⟨q, i, none⟩ := fun i => World.cell?_of_block (a := ⟨q, i, none⟩) (g.by_.block q h.lt (fun e => hn e.symm))
 refine ⟨⟨(hs _).trans h.c0, (hs _).trans h.c1, (hs _).trans h.c2, (hs _).trans h.c3, (hs _).trans h.c4, (hs _).trans h.c5, (hs _).trans h.c6, (hs _).trans h.c7⟩, fun e => ?_⟩
 rcases g.own with e2 | ⟨k, e2, hk⟩
 ·exact hn (e2 ▸ e)
 ·rw [e2] at e
  have := h.lt
  have := Option.some.inj e
  omega
theorem Mf.EW.off {w1 wr : World} {u : Value} {bs : List UInt8} (h : Mf.EW w1 wr u bs) {q : Nat} (hq : wr.heap.size ≤ q) : u.ownBlock ≠ some q := fun e => by
 have := (World.ownsRow.lt h.buf q e).2
 omega
theorem Mf.EW.off2 {w1 wr : World} {u : Value} {bs : List UInt8} (h : Mf.EW w1 wr u bs) {q o m c : Nat} (hq : wr.heap.size ≤ q) {α : Type} {L : List α} : L ≠ [] → ∀ b, (Value.slice (some ⟨q, o, none⟩) m c).ownBlock = some b → u.ownBlock ≠ some b := fun _ b hb => by
 obtain rfl : q = b := by simpa [Value.ownBlock] using hb
 exact h.off hq
def Mf.pre (e : Mf.E) (k : Nat) : List UInt8 := Mf.encN e.drop.length ++ e.drop.flatMap Mf.encN ++ Mf.encN e.add.length ++ (e.add.take k).flatMap Mf.encP
theorem Mf.pre_len {e : Mf.E} (h : Mf.right e = true) (k : Nat) : (Mf.pre e k).length ≤ 200000 := by
 obtain ⟨h1, h2, _, h4, _, _⟩ := (Mf.right_iff e).1 h
 have a1 := Mf.flat_len e.drop (enc := Mf.encN) (m := 9) fun x _ => Mf.encN_len x
 have a2 := Mf.flat_len (e.add.take k) (enc := Mf.encP) (m := 182) fun x hx => Mf.encP_len (h4 x (List.mem_of_mem_take hx))
 have a3 : (e.add.take k).length ≤ e.add.length := by rw [List.length_take]; omega
 have := Mf.encN_len e.drop.length
 have := Mf.encN_len e.add.length
 have := Nat.mul_le_mul_right 9 h1
 have := Nat.mul_le_mul_right 182 (Nat.le_trans a3 h2)
 unfold Mf.pre
 simp only [List.length_append]
 omega
theorem Mf.pre_step {e : Mf.E} {k : Nat} {p : Mf.P} (h : e.add[k]? = some p) : Mf.pre e (k + 1) = Mf.pre e k ++ [p.id, p.lv].flatMap Mf.encN ++ Mf.encV p.lo ++ Mf.encV p.hi := by
 unfold Mf.pre
 rw [Mf.flat_take h]
 unfold Mf.encP
 simp [List.append_assoc]
theorem Mf.pre_all (e : Mf.E) : Mf.pre e e.add.length ++ [e.floor, e.next].flatMap Mf.encN = Mf.enc e := by
 unfold Mf.pre Mf.enc
 rw [List.take_length]
 simp [List.append_assoc]
set_option maxHeartbeats 8000000 in
set_option maxRecDepth 100000 in
theorem Mf.encoding_c (vd va : Value) (e : Mf.E) (w : World) (hT : Ty.Tabs w) (hd : Mf.Is w vd e.drop) (ha : Mf.Ps w va e.add) (hr : Mf.right e = true) (hi : ∀ p ∈ e.add, p.i64) :
 Calls Tryd.prog 17 #[.agg #[vd, va, .int .i64 e.floor, .int .i64 e.next]] w fun r w' => r = .returned (.string (Ty.S (Mf.enc e))) ∧ Below w.heap.size w w' := by
 have hE := Mf.EA.new w vd va e.floor e.next 27
 have hb : Below w.heap.size w (w.alloc (.cells #[vd, va, .int .i64 e.floor, .int .i64 e.next] 27)) := (Below.refl _ w).alloc (Nat.le_refl _) _
 have hT1 := Ty.Tabs.below hT hb (Ty.Tabs.two hT)
 have hd1 := hd.kept hb
 have ha1 := ha.kept hb
 have HPL := Lib.hid (Mf.pre_len hr)
 have HPS := Lib.hid (fun (k : Nat) (p : Mf.P) => Mf.pre_step (e := e) (k := k) (p := p))
 have HP0 : Hid (Mf.pre e 0 = [(e.drop.length : Int)].flatMap Mf.encN ++ e.drop.flatMap Mf.encN ++ [(e.add.length : Int)].flatMap Mf.encN) := Lib.hid (by unfold Mf.pre; simp)
 have HPA := Lib.hid (Mf.pre_all e)
 obtain ⟨r1, r2, r3, r4, r5, r6⟩ := (Mf.right_iff e).1 hr
 have r5 := (Mf.nm_iff _).1 r5
 have r6 := (Mf.nm_iff _).1 r6
 have HR3 := Lib.hid r3
 have HR4 := Lib.hid r4
 have HI := Lib.hid hi
 have h9 := Mf.encN_flat e.drop
 have h91 := Mf.encN_flat [(e.drop.length : Int)]
 have h92 := Mf.encN_flat [(e.add.length : Int)]
 obtain ⟨D, A, fl, nx⟩ := e
 simp only at hE hb hT1 hd1 ha1 HPL HPS HP0 HPA r1 r2 r5 r6 HR3 HR4 HI h9 h91 h92 ⊢
 have HIS := Lib.hid hd1
 obtain ⟨ad, cd, rfl, -, -⟩ := hd1
 obtain ⟨aa, ca, rfl, -, ha2⟩ := ha1
 have HN : Hid (D.length ≤ 1000 ∧ A.length ≤ 1000 ∧ (D.flatMap Mf.encN).length ≤ 9000 ∧ ([(D.length : Int)].flatMap Mf.encN).length ≤ 9 ∧ ([(A.length : Int)].flatMap Mf.encN).length ≤ 9) := Lib.hid ⟨r1, r2, by omega, by simpa using h91, by simpa using h92⟩
 have HFN : Hid ((0 ≤ fl ∧ fl ≤ 999999999) ∧ (0 ≤ nx ∧ nx ≤ 999999999)) := Lib.hid ⟨r5, r6⟩
 have hsz : (w.alloc (.cells #[.slice ad D.length cd, .slice aa A.length ca, .int .i64 fl, .int .i64 nx] 27)).heap.size = w.heap.size + 1 := World.size_alloc ..
 have HB := Lib.hid hb
 have HE := Lib.hid hE
 have HT := Lib.hid hT1
 have HA : Hid (∀ W, Below (w.alloc (.cells #[.slice ad D.length cd, .slice aa A.length ca, .int .i64 fl, .int .i64 nx] 27)).heap.size (w.alloc (.cells #[.slice ad D.length cd, .slice aa A.length ca, .int .i64 fl, .int .i64 nx] 27)) W → ∀ (i : Nat) (p : Mf.P), A[i]? = some p → ∃ b o, aa = some ⟨b, o, none⟩ ∧ Mf.PA W b (o + i * 8) p) := Lib.hid fun W hW i p hp => by
  rcases ha2 with ⟨h0, -⟩ | ⟨b, o, cs, fr, rfl, -, _, h⟩
  ·rw [h0] at hp; cases hp
  ·exact ⟨b, o, rfl, (Mf.Ps.part h hp).kept hW⟩
 obtain ⟨e0, e1, e2, e3⟩ := hE
 generalize Mf.enc ⟨D, A, fl, nx⟩ = ENC at HPA ⊢
 obtain ⟨PRE, hPRE⟩ : ∃ PRE, PRE = Mf.pre ⟨D, A, fl, nx⟩ := ⟨_, rfl⟩
 rw [← hPRE] at HPL HPS HP0 HPA
 clear hT hd ha hr hi hb hT1 ha2 r1 r2 r3 r4 r5 r6 h9 h91 h92 hPRE
 go_enter Tryd.func17, Tryd.ntmps17
 go_wp2_with fail
 generalize hwo : w.alloc _ = w1 at hsz HB HE HT HA HIS e0 e1 e2 e3 ⊢
 clear hwo
 have hI1 := Mf.is_one w1 (D.length : Int)
 rw [hsz] at hI1
 have hx1 : ∀ x ∈ [(D.length : Int)], 0 ≤ x ∧ x ≤ 9223372036854775807 := fun x hx => by
  obtain rfl : x = (D.length : Int) := by simpa using hx
  have := HN.out.1
  omega
 have hx2 : ∀ x ∈ [(A.length : Int)], 0 ≤ x ∧ x ≤ 9223372036854775807 := fun x hx => by
  obtain rfl : x = (A.length : Int) := by simpa using hx
  have := HN.out.2.1
  omega
 have HX2 := Lib.hid hx2
 have E0 : Mf.EW w1 w1 (.slice none 0 0) [] := ⟨Ty.Buf.nil _ _, Below.refl _ _⟩
 have hA1 : Below w1.heap.size w1 (w1.alloc (.cells #[.int .i64 (D.length : Int)] 3)) := (Below.refl _ _).alloc (Nat.le_refl _) _
 with_reducible refine (E0.nums HT.out hA1 hI1 (fun _ _ _ e => by simp [Value.ownBlock] at e) hx1 (by simp) (by simp)).mono ?_
 rintro e w2 ⟨u2, rfl, h2, -⟩
 have E2 := Lib.hid h2
 obtain ⟨f0, f1, f2, f3⟩ := HE.out.kept h2.below
 clear e0 e1 e2 e3 hI1 E0 hA1 h2 hx1 hx2
 go_wp2_with fail
 have hoff2 : D ≠ [] → ∀ b, (Value.slice ad D.length cd).ownBlock = some b → u2.ownBlock ≠ some b := fun hL b hb e => by
  have h1 := Mf.is_lt HIS.out hL hb
  have h2 := (World.ownsRow.lt E2.out.buf b e).1
  omega
 with_reducible refine (E2.out.nums HT.out (Below.refl _ _) (HIS.out.kept E2.out.below) hoff2 (fun x hx => by have := (Mf.nm_iff _).1 (HR3.out x hx); omega) (by have := HN.out; omega) (by have := HN.out; simp only [List.nil_append]; omega)).mono ?_
 rintro e w3 ⟨u3, rfl, h3, -⟩
 have E3 := Lib.hid h3
 obtain ⟨e0, e1, e2, e3⟩ := HE.out.kept h3.below
 clear f0 f1 f2 f3 h3 hoff2
 go_wp2_with fail
 have hA3 : Below w3.heap.size w3 (w3.alloc (.cells #[.int .i64 (A.length : Int)] 3)) := (Below.refl _ _).alloc (Nat.le_refl _) _
 with_reducible refine (E3.out.nums HT.out hA3 (Mf.is_one w3 (A.length : Int)) (E3.out.off2 (Nat.le_refl _)) HX2.out (by simp) (by have := HN.out; simp only [List.nil_append, List.length_append]; omega)).mono ?_
 rintro e w4 ⟨u4, rfl, h4, -⟩
 have E4 : Hid (Mf.EW w1 w4 u4 (PRE 0)) := Lib.hid (by rw [HP0.out]; simpa [List.append_assoc] using h4)
 obtain ⟨f0, f1, f2, f3⟩ := HE.out.kept h4.below
 have hln : (A.length : Int) ≤ 1000 := by have := HN.out; omega
 clear e0 e1 e2 e3 hA3 h4
 go_wp2_with fail
 go_loopw [3, 24] (fun u i wr => ∃ k : Nat, k ≤ A.length ∧ i = .int .i64 k ∧ Mf.EW w1 wr u (PRE k)) (fun _ i _ => A.length - (intOf i).toNat)
 case atStart => exact ⟨0, Nat.zero_le _, rfl, E4.out⟩
 case round =>
  obtain ⟨k, hk, rfl, hEW⟩ := hrel
  have hk0 : (0 : Int) ≤ (k : Int) := by omega
  have HEW := Lib.hid hEW
  obtain ⟨e0, e1, e2, e3⟩ := HE.out.kept hEW.below
  clear f0 f1 f2 f3
  by_cases hkl : k < A.length
  ·have hx := List.getElem?_eq_getElem hkl
   have hmem := List.getElem_mem hkl
   generalize A[k] = p at hx hmem
   obtain ⟨b, o, rfl, hp⟩ := HA.out _ hEW.below k p hx
   obtain ⟨p0, p1, p2, p3, p4, p5, p6, p7⟩ := hp
   have hpi := HI.out p hmem
   obtain ⟨g1, g2, g3, g4, _⟩ := Mf.part_is (HR4.out p hmem)
   have HST := Lib.hid (HPS.out k p hx)
   have HPK := Lib.hid (HPL.out k)
   have HPK1 : Hid ((PRE k ++ [p.id, p.lv].flatMap Mf.encN).length ≤ 200018) := Lib.hid (by have := Mf.encN_flat [p.id, p.lv]; have := HPK.out; rw [List.length_append]; simp only [List.length_cons, List.length_nil] at *; omega)
   have HPK2 : Hid ((PRE k ++ [p.id, p.lv].flatMap Mf.encN ++ Mf.encV p.lo).length ≤ 200100) := Lib.hid (by have := Mf.encV_len g3; have := HPK1.out; rw [List.length_append]; omega)
   have HG : Hid ((0 ≤ p.id ∧ p.id ≤ 999999999) ∧ (0 ≤ p.lv ∧ p.lv ≤ 3)) := Lib.hid ⟨g1, g2⟩
   have HIP := Lib.hid hpi
   have HKY := Lib.hid (And.intro g3 g4)
   have hki : (k : Int) < (A.length : Int) := by omega
   have hPN := Mf.PA.new wr p 45
   have hAP : Below wr.heap.size wr (wr.alloc (.cells (Mf.cs p) 45)) := (Below.refl _ _).alloc (Nat.le_refl _) _
   have hsp : (wr.alloc (.cells (Mf.cs p) 45)).heap.size = wr.heap.size + 1 := World.size_alloc ..
   have hI2 := Mf.is_two (wr.alloc (.cells (Mf.cs p) 45)) p.id p.lv
   rw [hsp] at hI2
   have C1 := hEW.nums HT.out (hAP.alloc (by omega) (.cells #[.int .i64 p.id, .int .i64 p.lv] 3)) hI2 (hEW.off2 (Nat.le_succ _)) (fun x hx => by
    have := HG.out
    rcases List.mem_cons.1 hx with rfl | hx
    ·omega
    ·obtain rfl : x = p.lv := by simpa using hx
     omega) (by simp) (by have := HPK.out; omega)
   have CB := Lib.hid fun (W : World) (u : Value) (h : Mf.EW w1 W u (PRE k ++ [p.id, p.lv].flatMap Mf.encN)) => h.bound HT.out (Below.refl _ _) HIP.out.1 HKY.out.1 (by have := HPK1.out; omega)
   have CC := Lib.hid fun (W : World) (u : Value) (h : Mf.EW w1 W u (PRE k ++ [p.id, p.lv].flatMap Mf.encN ++ Mf.encV p.lo)) => h.bound HT.out (Below.refl _ _) HIP.out.2 HKY.out.2 (by have := HPK2.out; omega)
   have HPN2 := Lib.hid (hPN.kept ((Below.refl _ (wr.alloc (.cells (Mf.cs p) 45))).alloc (Nat.le_refl _) (.cells #[.int .i64 p.id, .int .i64 p.lv] 3)))
   have HOF := Lib.hid (hEW.off (Nat.le_refl _))
   clear hx hmem hpi g1 g2 g3 g4 hPN hAP hsp hI2 hEW
   go_wp2_with fail
   with_reducible refine C1.mono ?_
   rintro e w5 ⟨u5, rfl, h5, G5⟩
   have H5 := Lib.hid h5
   have P5 := Lib.hid (Mf.pa_grew HPN2.out G5 HOF.out)
   have CB5 := CB.out w5 u5 h5
   obtain ⟨q0, q1, q2, q3, q4, q5, q6, q7⟩ := P5.out.1
   clear C1 h5 G5
   go_wp2_with fail
   with_reducible refine CB5.mono ?_
   rintro e w6 ⟨u6, rfl, h6, G6⟩
   have P6 := Lib.hid (Mf.pa_grew P5.out.1 G6 P5.out.2)
   have CC6 := CC.out w6 u6 h6
   clear q0 q1 q2 q3 q4 q5 q6 q7
   obtain ⟨q0, q1, q2, q3, q4, q5, q6, q7⟩ := P6.out.1
   clear CB5 h6 G6
   go_wp2_with fail
   with_reducible refine CC6.mono ?_
   rintro e w7 ⟨u7, rfl, h7, -⟩
   have H7 := Lib.hid h7
   clear CC6 h7
   go_wp2
   go_roundw
   case rel => exact ⟨k + 1, by omega, by simp, by rw [HST.out]; exact H7.out⟩
   case measure => simp [intOf]; omega
  ·obtain rfl : k = A.length := by omega
   have hki : ¬ (A.length : Int) < (A.length : Int) := by omega
   have hA4 : Below wr.heap.size wr (wr.alloc (.cells #[.int .i64 fl, .int .i64 nx] 3)) := (Below.refl _ _).alloc (Nat.le_refl _) _
   have C1 := hEW.nums HT.out hA4 (Mf.is_two wr fl nx) (hEW.off2 (Nat.le_refl _)) (fun x hx => by
    have := HFN.out
    rcases List.mem_cons.1 hx with rfl | hx
    ·omega
    ·obtain rfl : x = nx := by simpa using hx
     omega) (by simp) (by have := HPL.out A.length; omega)
   rw [HPA.out] at C1
   clear hk hkl hEW hA4
   go_wp2_with fail
   with_reducible refine C1.mono ?_
   rintro e w5 ⟨u5, rfl, h5, -⟩
   have hst := h5.buf.str
   have HB5 := Lib.hid (HB.out.trans (h5.below.mono HB.out.size))
   clear h5 C1
   go_wp2
   go_ret
   exact ⟨rfl, HB5.out⟩
end
section
open Go.RowKit
theorem Mf.below_reg {w w' : World} (h : ∃ p : Regrown, w' = Sort.grow (redrawn w p.d) p.os) : Below w.heap.size w w' := by
 obtain ⟨p, rfl⟩ := h
 exact below_regrown w p.d p.os
theorem Mf.S_add (a b : List UInt8) : Ty.S a ++ Ty.S b = Ty.S (a ++ b) := by
 apply ByteArray.ext
 apply Array.toList_inj.1
 rw [ByteArray.data_append, Array.toList_append]
 simp [Ty.S]
set_option maxHeartbeats 400000 in
theorem Mf.rnum_c (n : Int) (h0 : 0 ≤ n) (h1 : n ≤ 9223372036854775807) (w : World) : Calls Tryd.prog 19 #[.int .i64 n] w fun e w' => e = .returned (.string (Ty.S (Mf.encN n))) ∧ Below w.heap.size w w' := by
 have hw : IntKind.u64.wrap n = n := by rw [IntKind.wrap_u64]; omega
 have c1 := Ty.ruint_c n h0 w
 unfold Ty.Str at c1
 unfold Mf.encN
 generalize Ty.S (Ty.encU n.toNat) = T at c1 ⊢
 clear h0 h1
 go_enter Tryd.func19, Tryd.ntmps19
 go_wp2_with fail
 with_reducible refine c1.mono ?_
 rintro e w1 ⟨rfl, g1⟩
 have G := Lib.hid g1
 go_wp2
 go_ret
 exact ⟨rfl, G.out⟩
set_option maxHeartbeats 2000000 in
set_option maxRecDepth 100000 in
theorem Mf.rvalue_c (x : Kn.V) (hi : Ty.I64 x.n) (hk : Mf.key x = true) (w : World) : Calls Tryd.prog 20 #[x.val] w fun e w' => e = .returned (.string (Ty.S (Mf.encV x))) ∧ Below w.heap.size w w' := by
 have hz : x.s.size ≤ 64 := by unfold Mf.key at hk; simp only [Bool.and_eq_true, decide_eq_true_iff] at hk; exact hk.2
 obtain ⟨v0, v1, v2⟩ := Kn.At.new w x 43
 have HB : Hid (Below w.heap.size w (w.alloc (.cells #[.bool x.null, .int .i64 x.n, .string x.s] 43))) := Lib.hid ((Below.refl _ _).alloc (Nat.le_refl _) _)
 have h9 : (Ty.S (Ty.encU (Ty.zig x.n).toNat)).size ≤ 9 := Ty.encU_len9 _
 have h92 : (Ty.S (Ty.encU x.s.size ++ x.s.data.toList)).size ≤ 73 := by
  have := Ty.encU_len9 x.s.size
  rw [Ty.size_S, List.length_append, Ty.length_data]
  omega
 have HE : Hid (Ty.S (Mf.encV x) = Ty.S (Ty.encU (Ty.zig x.n).toNat) ++ Ty.S (Ty.encU x.s.size ++ x.s.data.toList)) := Lib.hid (by
  unfold Mf.encV Ig.encI Tx.encT
  rw [Mf.S_add, Ty.length_data])
 rw [HE.out]
 obtain ⟨xn, xi, xs⟩ := x
 unfold Kn.V.val
 simp only at v0 v1 v2 hz h9 h92 HB hi ⊢
 have CA := Lib.hid fun (W : World) => Ty.rint_c xi W hi
 have CB := Lib.hid fun (W : World) => Ty.rtext_c xs (by omega) W
 unfold Ty.Str at CA CB
 generalize Ty.S (Ty.encU (Ty.zig xi).toNat) = A at CA h9 ⊢
 generalize Ty.S (Ty.encU xs.size ++ xs.data.toList) = B at CB h92 ⊢
 clear hi hk HE
 go_enter Tryd.func20, Tryd.ntmps20
 go_wp2_with fail
 generalize hwo : w.alloc _ = w1 at v0 v1 v2 HB ⊢
 clear hwo
 have C1 : Hid (∀ p : Regrown, Calls Tryd.prog 40 #[.int .i64 xi] (Sort.grow (redrawn w1 p.d) p.os) fun e w'' => e = .returned (.string A) ∧ ∃ p : Regrown, w'' = Sort.grow (redrawn w1 p.d) p.os) := Lib.hid fun p => Calls.regrown_of (CA.out _)
 have C2 : Hid (∀ p : Regrown, Calls Tryd.prog 41 #[.string xs] (Sort.grow (redrawn w1 p.d) p.os) fun e w'' => e = .returned (.string B) ∧ ∃ p : Regrown, w'' = Sort.grow (redrawn w1 p.d) p.os) := Lib.hid fun p => Calls.regrown_of (CB.out _)
 have E1 := fun d os => cell_regrown v1 d os
 have E2 := fun d os => cell_regrown v2 d os
 have n1 : ¬ 9223372036854775807 < A.size + B.size := by omega
 clear hz v0 h9 h92
 refine wp_region_quiet_below (by kernel_rfl) (by kernel_rfl) ?_
 repeat (go_big_quiet_step (first | with_reducible exact C1.out _ | with_reducible exact C2.out _))
 refine wpQuiet_nil ?_
 intro wq hw'
 have HBQ := Lib.hid (HB.out.trans ((Mf.below_reg hw').mono HB.out.size))
 clear hw'
 go_wp2
 go_ret
 exact ⟨rfl, HBQ.out⟩
def Mf.wV (e : Mf.E) : Value := if Mf.right e = true then .tuple #[.string (Ty.S (Fr.frm (Mf.enc e))), .int .i64 0] else .tuple #[.string (Ty.S []), .int .i64 1]
set_option maxHeartbeats 4000000 in
set_option maxRecDepth 100000 in
theorem Mf.write_c (vd va : Value) (e : Mf.E) (w : World) (hT : Ty.Tabs w) (hd : Mf.Is w vd e.drop) (ha : Mf.Ps w va e.add) (hi : ∀ p ∈ e.add, p.i64) :
 Calls Tryd.prog 7 #[.agg #[vd, va, .int .i64 e.floor, .int .i64 e.next]] w fun r w' => r = .returned (Mf.wV e) ∧ Below w.heap.size w w' := by
 have hE := Mf.EA.new w vd va e.floor e.next 27
 have hb : Below w.heap.size w (w.alloc (.cells #[vd, va, .int .i64 e.floor, .int .i64 e.next] 27)) := (Below.refl _ w).alloc (Nat.le_refl _) _
 have CR := Lib.hid fun (W : World) (g : Below w.heap.size w W) => Mf.rightEdit_c vd va e W (hd.kept g) (ha.kept g)
 have CE := Lib.hid fun (hr : Mf.right e = true) (W : World) (g : Below w.heap.size w W) => Mf.encoding_c vd va e W (hT.below g (Ty.Tabs.two hT)) (hd.kept g) (ha.kept g) hr hi
 have CF := Lib.hid fun (hr : Mf.right e = true) (W : World) => Fr.write_c (Ty.S (Mf.enc e)) (by have := Mf.enc_len hr; rw [Ty.size_S]; omega) W rfl
 have HVY : Hid (Mf.right e = true → Mf.wV e = .tuple #[.string (Ty.S (Fr.frm (Mf.enc e))), .int .i64 0]) := Lib.hid fun h => by unfold Mf.wV; rw [if_pos h]
 have HVN : Hid (Mf.right e = false → Mf.wV e = .tuple #[.string (Ty.S []), .int .i64 1]) := Lib.hid fun h => by unfold Mf.wV; rw [if_neg (by rw [h]; decide)]
 obtain ⟨D, A, fl, nx⟩ := e
 simp only at hE hb CR CE CF ⊢
 obtain ⟨ad, cd, rfl, -, -⟩ := hd
 obtain ⟨aa, ca, rfl, -, -⟩ := ha
 have HB := Lib.hid hb
 have HE := Lib.hid hE
 obtain ⟨e0, e1, e2, e3⟩ := hE
 rw [show Ty.S (Fr.frm (Ty.S (Mf.enc ⟨D, A, fl, nx⟩)).data.toList) = Ty.S (Fr.frm (Mf.enc ⟨D, A, fl, nx⟩)) by rw [Ty.data_S]] at CF
 generalize Mf.wV ⟨D, A, fl, nx⟩ = V at HVY HVN ⊢
 generalize Mf.right ⟨D, A, fl, nx⟩ = R at CR CE CF HVY HVN
 generalize Ty.S (Fr.frm (Mf.enc ⟨D, A, fl, nx⟩)) = M at CF HVY
 generalize Ty.S (Mf.enc ⟨D, A, fl, nx⟩) = T at CE CF
 clear hT hi hb
 cases R
 ·have HV := Lib.hid (HVN.out rfl)
  go_enter Tryd.func7, Tryd.ntmps7
  go_wp2_with fail
  with_reducible refine (CR.out _ HB.out).mono ?_
  rintro e w1 ⟨rfl, g1⟩
  have HB1 := Lib.hid (HB.out.trans (g1.mono HB.out.size))
  clear g1
  go_wp2
  go_ret2
  exact ⟨by rw [HV.out]; rfl, HB1.out⟩
 ·have HV := Lib.hid (HVY.out rfl)
  have CE2 := Lib.hid (CE.out rfl)
  have CF2 := Lib.hid (CF.out rfl)
  clear HVN HVY CE CF
  go_enter Tryd.func7, Tryd.ntmps7
  go_wp2_with fail
  with_reducible refine (CR.out _ HB.out).mono ?_
  rintro e w1 ⟨rfl, g1⟩
  have HB1 := Lib.hid (HB.out.trans (g1.mono HB.out.size))
  obtain ⟨f0, f1, f2, f3⟩ := HE.out.kept g1
  clear g1 e0 e1 e2 e3
  go_wp2_with fail
  with_reducible refine (CE2.out _ HB1.out).mono ?_
  rintro e w2 ⟨rfl, g2⟩
  have HB2 := Lib.hid (HB1.out.trans (g2.mono HB1.out.size))
  clear g2
  go_wp2_with fail
  with_reducible refine (CF2.out _).mono ?_
  rintro e w3 ⟨rfl, g3⟩
  have HB3 := Lib.hid (HB2.out.trans (g3.mono HB2.out.size))
  clear g3
  go_wp2
  go_ret2
  exact ⟨by rw [HV.out]; rfl, HB3.out⟩
end
end Go.Proofs.YthfgcilaikjhpaaDoor
