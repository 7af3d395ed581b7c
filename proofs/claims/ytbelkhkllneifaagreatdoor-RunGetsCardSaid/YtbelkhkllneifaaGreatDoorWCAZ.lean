/-
  
  
  
  
  
  
  
  
  
  
-/
import Derived.Test.YtbelkhkllneifaaGreatDoorWCAP
import Derived.Test.YtbelkhkllneifaaGreatDoorWCAG
import Derived.Test.YtbelkhkllneifaaGreatDoorWCAE
import Derived.Laws.Rows
import Derived.Laws.Tables
import Derived.Laws.CopyOwn
import Derived.Test.YtbelkhkllneifaaGreatDoorWCAQ
import Derived.Test.YtbelkhkllneifaaGreatDoorWCAK
import Derived.Test.YtbelkhkllneifaaGreatDoorWCAD
import Derived.Test.YtbelkhkllneifaaGreatDoorWCAY
import Derived.Lib.QuietBelow
import Derived.BigQuiet
import Derived.Test.YtbelkhkllneifaaGreatDoorWCAS
namespace Go.Proofs.YtbelkhkllneifaaGreatDoor
open Go.RowKit
def Fr.Mid (l : List UInt8) (a : Nat) (L : List Fr.Str) : Prop :=
 a ≤ l.length ∧ 8 * L.length ≤ a ∧ Fr.scan l = if (Fr.scan (l.drop a)).1 ≠ 0 then (8, [], 0) else (0, L ++ (Fr.scan (l.drop a)).2.1, a + (Fr.scan (l.drop a)).2.2)
theorem Fr.Mid.start (l : List UInt8) : Fr.Mid l 0 [] := by
 refine ⟨Nat.zero_le _, by simp, ?_⟩
 rw [List.drop_zero]
 rcases Fr.scan_err l with e | e
 ·rw [if_neg (by rw [e]; simp)]
  exact Prod.ext e (Prod.ext (by simp) (by simp))
 ·rw [e]; rfl
theorem Fr.Mid.short {l : List UInt8} {a : Nat} {L : List Fr.Str} (h : Fr.Mid l a L) (h4 : (l.drop a).length < 4) : Fr.scan l = (0, L, a) := by
 rw [h.2.2, Fr.scan_is (l.drop a), if_pos h4]
 simp
theorem Fr.Mid.big {l : List UInt8} {a : Nat} {L : List Fr.Str} (h : Fr.Mid l a L) (h4 : ¬ (l.drop a).length < 4) (hb : 1048576 < Fr.val ((l.drop a).take 4)) : Fr.scan l = (8, [], 0) := by
 rw [h.2.2, Fr.scan_is (l.drop a), if_neg h4, if_pos hb]
 rfl
theorem Fr.Mid.torn {l : List UInt8} {a : Nat} {L : List Fr.Str} (h : Fr.Mid l a L) (h4 : ¬ (l.drop a).length < 4) (hb : ¬ 1048576 < Fr.val ((l.drop a).take 4)) (ht : (l.drop a).length < Fr.val ((l.drop a).take 4) + 8) : Fr.scan l = (0, L, a) := by
 rw [h.2.2, Fr.scan_is (l.drop a), if_neg h4, if_neg hb, if_pos ht]
 simp
theorem Fr.Mid.wrong {l : List UInt8} {a : Nat} {L : List Fr.Str} (h : Fr.Mid l a L) (h4 : ¬ (l.drop a).length < 4) (hb : ¬ 1048576 < Fr.val ((l.drop a).take 4)) (ht : ¬ (l.drop a).length < Fr.val ((l.drop a).take 4) + 8)
 (hs : Fr.val (((l.drop a).drop (4 + Fr.val ((l.drop a).take 4))).take 4) ≠ Fr.sum (((l.drop a).drop 4).take (Fr.val ((l.drop a).take 4)))) : Fr.scan l = (8, [], 0) := by
 rw [h.2.2, Fr.scan_is (l.drop a), if_neg h4, if_neg hb, if_neg ht, if_pos hs]
 rfl
theorem Fr.Mid.next {l : List UInt8} {a : Nat} {L : List Fr.Str} (h : Fr.Mid l a L) (h4 : ¬ (l.drop a).length < 4) (hb : ¬ 1048576 < Fr.val ((l.drop a).take 4)) (ht : ¬ (l.drop a).length < Fr.val ((l.drop a).take 4) + 8)
 (hs : Fr.val (((l.drop a).drop (4 + Fr.val ((l.drop a).take 4))).take 4) = Fr.sum (((l.drop a).drop 4).take (Fr.val ((l.drop a).take 4)))) : Fr.Mid l (a + (Fr.val ((l.drop a).take 4) + 8)) (L ++ [((l.drop a).drop 4).take (Fr.val ((l.drop a).take 4))]) := by
 have hlen : (l.drop a).length = l.length - a := List.length_drop
 refine ⟨by omega, by rw [List.length_append, List.length_singleton]; have := h.2.1; omega, ?_⟩
 have e := Fr.scan_is (l.drop a)
 rw [if_neg h4, if_neg hb, if_neg ht, if_neg (fun h => h hs), show (l.drop a).drop (Fr.val ((l.drop a).take 4) + 8) = l.drop (a + (Fr.val ((l.drop a).take 4) + 8)) from List.drop_drop] at e
 rw [h.2.2, e]
 generalize Fr.scan (l.drop (a + (Fr.val ((l.drop a).take 4) + 8))) = q
 generalize Fr.val ((l.drop a).take 4) = N
 by_cases h5 : q.1 ≠ 0
 ·simp [h5]
 ·have h6 : q.1 = 0 := by simpa using h5
  simp [h6, Nat.add_assoc]
def Fr.Got (w : World) (r : Nat × List Fr.Str × Nat) (e : Ending) (w' : World) : Prop :=
 ∃ v, e = .returned (.tuple #[v, .int .i64 ((r.2.2 : Nat) : Int), .int .i64 ((r.1 : Nat) : Int)]) ∧ Tx.At w'.heap.size w' v r.2.1 ∧ Below w.heap.size w w'
theorem Fr.Got.bad {w w' : World} {r : Nat × List Fr.Str × Nat} (hr : r = (8, [], 0)) (g : Below w.heap.size w w') : Fr.Got w r (.returned (.tuple #[.slice none 0 0, .int .i64 0, .int .i64 8])) w' :=
 ⟨_, by rw [hr]; rfl, by rw [hr]; exact Tx.At.nil _, g⟩
theorem Fr.Got.good {w w' : World} {r : Nat × List Fr.Str × Nat} {v : Value} {L : List Fr.Str} {a : Nat} (hr : r = (0, L, a)) (h : Tx.At w'.heap.size w' v L) (g : Below w.heap.size w w') : Fr.Got w r (.returned (.tuple #[v, .int .i64 (a : Int), .int .i64 0])) w' :=
 ⟨_, by rw [hr]; rfl, by rw [hr]; exact h, g⟩
theorem Fr.ext_at (s : ByteArray) (a b : Nat) : s.extract a b = Ty.S ((s.data.toList.drop a).take (b - a)) := Ty.extract_S s a b
end Go.Proofs.YtbelkhkllneifaaGreatDoor

namespace Go.Proofs.YtbelkhkllneifaaGreatDoor
open Go.RowKit
end Go.Proofs.YtbelkhkllneifaaGreatDoor

namespace Go.Proofs.YtbelkhkllneifaaGreatDoor
open Go.RowKit
def Fr.all (l : List UInt8) : Nat × List Fr.Str := if (Fr.scan l).1 ≠ 0 then ((Fr.scan l).1, []) else if (Fr.scan l).2.2 < l.length then (2, []) else (0, (Fr.scan l).2.1)
def Fr.GotA (w : World) (r : Nat × List Fr.Str) (e : Ending) (w' : World) : Prop :=
 ∃ v, e = .returned (.tuple #[v, .int .i64 ((r.1 : Nat) : Int)]) ∧ Tx.At w'.heap.size w' v r.2 ∧ Below w.heap.size w w'
theorem Fr.GotA.bad {w w' : World} {r : Nat × List Fr.Str} {e : Nat} (hr : r = (e, [])) (g : Below w.heap.size w w') : Fr.GotA w r (.returned (.tuple #[.slice none 0 0, .int .i64 (e : Int)])) w' :=
 ⟨_, by rw [hr], by rw [hr]; exact Tx.At.nil _, g⟩
theorem Fr.GotA.good {w w' : World} {r : Nat × List Fr.Str} {v : Value} {L : List Fr.Str} (hr : r = (0, L)) (h : Tx.At w'.heap.size w' v L) (g : Below w.heap.size w w') : Fr.GotA w r (.returned (.tuple #[v, .int .i64 0])) w' :=
 ⟨_, by rw [hr]; rfl, by rw [hr]; exact h, g⟩
theorem Fr.scan_le (l : List UInt8) : (Fr.scan l).2.2 ≤ l.length := by
 rcases Fr.scan_err l with h | h
 ·exact Fr.scan_end l.length l (Nat.le_refl _) h
 ·rw [h]; exact Nat.zero_le _
end Go.Proofs.YtbelkhkllneifaaGreatDoor

namespace Go.Proofs.YtbelkhkllneifaaGreatDoor
open Go.RowKit
def Fr.half (j : Nat) : Value := .int .u32 ((Fr.Tn 4 j : Nat) : Int)
theorem Fr.nib (r : Nat) : Fr.Tn 4 r = r / 16 ^^^ Fr.Tn 4 (r % 16) := Fr.Tn_split 4 r
theorem Fr.Tn8 (r : Nat) : Fr.Tn 8 r = Fr.Tn 4 (Fr.Tn 4 r) := Fr.Tn_add 4 4 r
theorem Fr.nib_eq {X Y Z : Nat} (hX : X < 4294967296) (hY : Y = X / 16) (hZ : Z = X % 16) : bits .xor .u32 (Y : Int) ((Fr.Tn 4 Z : Nat) : Int) = ((Fr.Tn 4 X : Nat) : Int) := by
 have h : bits .xor .u32 (Y : Int) ((Fr.Tn 4 Z : Nat) : Int) = ((Y ^^^ Fr.Tn 4 Z : Nat) : Int) := u32_xor_nat _ _ (by omega) (Fr.Tn_lt (by omega))
 rw [h, hY, hZ, ← Fr.nib]
def Fr.zeros : Array Value := #[.int .u32 0, .int .u32 0, .int .u32 0, .int .u32 0, .int .u32 0, .int .u32 0, .int .u32 0, .int .u32 0, .int .u32 0, .int .u32 0, .int .u32 0, .int .u32 0, .int .u32 0, .int .u32 0, .int .u32 0, .int .u32 0]
def Fr.Tab (w : World) (g : Nat) : Prop := g < w.heap.size ∧ ∀ j, j < 16 → w.cell? ⟨g, j, none⟩ = some (.int .u32 ((Fr.Tn 4 j : Nat) : Int))
theorem Fr.Tab.kept {w w' : World} {g : Nat} (h : Fr.Tab w g) (b : Below w.heap.size w w') : Fr.Tab w' g := by
 refine ⟨Nat.lt_of_lt_of_le h.1 b.size, fun j hj => ?_⟩
 have := h.2 j hj
 unfold World.cell? at this ⊢
 rw [b.block g h.1]
 exact this
set_option maxHeartbeats 1000000 in
set_option maxRecDepth 100000 in
theorem Fr.half_c (g X : Nat) (hX : X < 4294967296) (w : World) (hT : Fr.Tab w g) :
 Calls Tryz.prog 146 #[.pointer (some ⟨g, 0, none⟩), .int .u32 (X : Int)] w fun e w' => e = .returned (.int .u32 ((Fr.Tn 4 X : Nat) : Int)) ∧ w' = w := by
 obtain ⟨Y, hY⟩ : ∃ Y, Y = X / 16 := ⟨_, rfl⟩
 obtain ⟨Z, hZ⟩ : ∃ Z, Z = X % 16 := ⟨_, rfl⟩
 have hd : (X : Int) / 16 = (Y : Int) := by omega
 have ha : bits .and .u32 (X : Int) 15 = (Z : Int) := by
  have := u32_and_nat X 15 hX (by decide)
  refine this.trans ?_
  rw [hZ, show (15 : Nat) = 2 ^ 4 - 1 from rfl, Nat.and_two_pow_sub_one_eq_mod]
 have hZ16 : Z < 16 := by omega
 have hZi : (Z : Int) < 16 := by omega
 have hZ0 : (0 : Int) ≤ (Z : Int) := by omega
 have c0 := hT.2 Z hZ16
 have hn := Fr.nib_eq hX hY hZ
 generalize Fr.Tn 4 Z = U at c0 hn
 generalize Fr.Tn 4 X = X1 at hn ⊢
 clear hY hZ hT
 go_enter Tryz.func146, Tryz.ntmps146
 go_wp2
 go_ret
 exact ⟨rfl, rfl⟩
set_option maxHeartbeats 1000000 in
set_option maxRecDepth 100000 in
theorem Fr.steps_c (w : World) : Calls Tryz.prog 110 #[] w fun e w' => ∃ g, e = .returned (.pointer (some ⟨g, 0, none⟩)) ∧ Fr.Tab w' g ∧ Below w.heap.size w w' := by
 have hb2 : Below w.heap.size w (w.alloc (.cells Fr.zeros 191)) := (Below.refl _ w).alloc (Nat.le_refl _) _
 have h1 : (w.alloc (.cells Fr.zeros 191)).rowIs w.heap.size 191 16 (Bt.upTo 0 Fr.half (.int .u32 0)) := by
  refine ⟨Fr.zeros, heap_alloc_new w (.cells Fr.zeros 191), rfl, fun i hi => ?_⟩
  have e : Bt.upTo 0 Fr.half (.int .u32 0) i = .int .u32 0 := by unfold Bt.upTo; rw [if_neg (by omega)]
  rw [e]
  rcases (by omega : i = 0 ∨ i = 1 ∨ i = 2 ∨ i = 3 ∨ i = 4 ∨ i = 5 ∨ i = 6 ∨ i = 7 ∨ i = 8 ∨ i = 9 ∨ i = 10 ∨ i = 11 ∨ i = 12 ∨ i = 13 ∨ i = 14 ∨ i = 15) with rfl | rfl | rfl | rfl | rfl | rfl | rfl | rfl | rfl | rfl | rfl | rfl | rfl | rfl | rfl | rfl <;> rfl
 have HLT : Hid (∀ j k, k < 16 → Fr.Tn j k < 4294967296) := Lib.hid fun j k hk => Fr.Tn_lt (by omega)
 have HB2 := Lib.hid hb2
 have H1 := Lib.hid h1
 clear hb2 h1
 go_enter Tryz.func110, Tryz.ntmps110
 go_wp2
 change Code.wp _ _ _ _ (w.alloc (.cells Fr.zeros 191))
 generalize w.alloc (.cells Fr.zeros 191) = w2 at HB2 H1 ⊢
 go_loopw [7] (fun i wr => ∃ k : Nat, k ≤ 16 ∧ i = .int .i64 k ∧ wr.rowIs w.heap.size 191 16 (Bt.upTo k Fr.half (.int .u32 0)) ∧ Below w.heap.size w wr) (fun i _ => 16 - (intOf i).toNat)
 case atStart => exact ⟨0, by omega, rfl, H1.out, HB2.out⟩
 case round =>
  obtain ⟨k, hk, rfl, hR, hB⟩ := hrel
  have HR := Lib.hid hR
  have HB := Lib.hid hB
  clear hR hB HB2 H1
  have hk0 : (0 : Int) ≤ (k : Int) := by omega
  by_cases hl : k < 16
  ·have hki : (k : Int) < 16 := by omega
   have HTL : Hid (∀ j, Fr.Tn j k < 4294967296) := Lib.hid fun j => HLT.out j k hl
   have HHF : Hid (Fr.half k = .int .u32 ((Fr.Tn 4 k : Nat) : Int)) := Lib.hid rfl
   go_wp2_with fail
   go_loop [3, 4, 12] (fun r o j => ∃ i : Nat, i ≤ 4 ∧ j = .int .i64 i ∧ r = .int .u32 (Fr.Tn i k : Nat)) (fun _ _ j => 4 - (intOf j).toNat)
   case atStart => exact ⟨0, by omega, rfl, rfl⟩
   case round =>
    obtain ⟨i, hi, rfl, rfl⟩ := hrel
    have hi0 : (0 : Int) ≤ (i : Int) := by omega
    by_cases hi4 : i < 4
    ·have hii : (i : Int) < 4 := by omega
     have hT := HTL.out i
     have HTN := Lib.hid (Fr.Tn_last i k)
     generalize Fr.Tn i k = Y at hT HTN ⊢
     obtain ⟨Z, hZ⟩ : ∃ Z, Z = Y / 2 := ⟨_, rfl⟩
     have hd : (Y : Int) / 2 = (Z : Int) := by omega
     have hZl : Z < 4294967296 := by omega
     have hand : bits .and .u32 (Y : Int) 1 = ((Y % 2 : Nat) : Int) := by
      have := u32_and_nat Y 1 hT (by decide)
      rwa [Nat.and_one_is_mod] at this
     rcases Nat.mod_two_eq_zero_or_one Y with hm | hm
     ·rw [hm] at hand
      have HE := Lib.hid (HTN.out.trans (Fr.T_even hm))
      rw [← hZ] at HE
      clear hZ hm
      go_wp2
      go_round
      case rel => exact ⟨i + 1, by omega, by simp, by rw [HE.out]⟩
      case measure => simp [intOf]; omega
     ·rw [hm] at hand
      have HE := Lib.hid (HTN.out.trans (Fr.T_odd hm))
      rw [← hZ] at HE
      have hx2 : bits .xor .u32 (Z : Int) 2197175160 = ((Z ^^^ 2197175160 : Nat) : Int) := u32_xor_nat Z 2197175160 hZl (by decide)
      clear hZ hm
      go_wp2
      go_round
      case rel => exact ⟨i + 1, by omega, by simp, by rw [HE.out]⟩
      case measure => simp [intOf]; omega
    ·obtain rfl : i = 4 := by omega
     have c0 := HR.out.cell hl
     have f0 := HR.out.frozen k
     go_wp2
     go_roundw
     case rel => exact ⟨k + 1, by omega, by simp, Bt.upTo_next HR.out rfl, HB.out.trans (Bt.below_set (Nat.le_refl _) _)⟩
     case measure => simp [intOf]; omega
  ·obtain rfl : k = 16 := by omega
   have hall : Fr.Tab wr w.heap.size := ⟨HR.out.lt, fun j hj => by
    have hc := HR.out.cell hj
    rw [hc]
    unfold Bt.upTo
    rw [if_pos hj]
    rfl⟩
   have HA := Lib.hid hall
   clear hall
   have h16 : (16 : Int) < 16 ↔ False := by simp
   go_wp2
   go_ret
   exact ⟨_, rfl, HA.out, HB.out⟩
end Go.Proofs.YtbelkhkllneifaaGreatDoor

namespace Go.Proofs.YtbelkhkllneifaaGreatDoor
open Go.RowKit
set_option maxHeartbeats 1000000 in
set_option maxRecDepth 100000 in
theorem Fr.tsum_c (g : Nat) (s : ByteArray) (hs : s.size ≤ 140737488355328) (w : World) (hT : Fr.Tab w g) :
 Calls Tryz.prog 131 #[.pointer (some ⟨g, 0, none⟩), .string s] w fun e w' => e = .returned (.int .u32 ((Fr.sum s.data.toList : Nat) : Int)) ∧ w' = w := by
 have HS := Lib.hid hs
 have HST : Hid (∀ k (h : k < s.size), Fr.reg Fr.ones (s.data.toList.take (k + 1)) = Fr.Tn 8 (Fr.reg Fr.ones (s.data.toList.take k) ^^^ (s[k]).toNat)) := Lib.hid fun k h => Fr.reg_step h _
 have HLT : Hid (∀ l, Fr.reg Fr.ones l < 4294967296) := Lib.hid fun l => Fr.reg_lt l Fr.ones (by decide)
 have HC : Hid (∀ X : Nat, X < 4294967296 → Calls Tryz.prog 146 #[.pointer (some ⟨g, 0, none⟩), .int .u32 (X : Int)] w fun e w' => e = .returned (.int .u32 ((Fr.Tn 4 X : Nat) : Int)) ∧ w' = w) := Lib.hid fun X hX => Fr.half_c g X hX w hT
 clear hs hT
 go_enter Tryz.func131, Tryz.ntmps131
 go_wp2
 go_loop [5, 6, 9] (fun r x i => ∃ k : Nat, k ≤ s.size ∧ i = .int .i64 k ∧ r = .int .u32 (Fr.reg Fr.ones (s.data.toList.take k) : Nat)) (fun _ _ i => s.size - (intOf i).toNat)
 case atStart => exact ⟨0, by omega, rfl, rfl⟩
 case round =>
  obtain ⟨k, hk, rfl, rfl⟩ := hrel
  have hk0 : (0 : Int) ≤ (k : Int) := by omega
  have hr := HLT.out (s.data.toList.take k)
  by_cases hl : k < s.size
  ·have hki : (k : Int) < (s.size : Int) := by omega
   have hks : (k : Int) < 9223372036854775807 := by have := HS.out; omega
   have HN := Lib.hid (HST.out k hl)
   have hb := (s[k]).toNat_lt
   generalize Fr.reg Fr.ones (s.data.toList.take k) = R at hr HN ⊢
   generalize hbb : s[k] = b at hb HN
   obtain ⟨X, hX⟩ : ∃ X, X = R ^^^ b.toNat := ⟨_, rfl⟩
   have hx : bits .xor .u32 (R : Int) (b.toNat : Int) = (X : Int) := by rw [hX]; exact u32_xor_nat R b.toNat hr (by omega)
   have hXl : X < 4294967296 := by rw [hX]; exact Nat.xor_lt_two_pow (n := 32) hr (by omega)
   rw [← hX, Fr.Tn8] at HN
   have c1 := HC.out X hXl
   have hX1l : Fr.Tn 4 X < 4294967296 := Fr.Tn_lt hXl
   generalize Fr.Tn 4 X = X1 at c1 hX1l HN
   have c2 := HC.out X1 hX1l
   generalize Fr.Tn 4 X1 = X2 at c2 HN
   clear hX
   go_wp2_with fail
   with_reducible refine c1.mono ?_
   rintro e w1 ⟨rfl, h1⟩
   subst w1
   clear c1
   go_wp2_with fail
   with_reducible refine c2.mono ?_
   rintro e w1 ⟨rfl, h1⟩
   subst w1
   clear c2
   go_wp2
   go_round
   case rel => exact ⟨k + 1, by omega, by simp, by rw [HN.out]⟩
   case measure => simp [intOf]; omega
  ·obtain rfl : k = s.size := by omega
   have hki : ¬ (s.size : Int) < (s.size : Int) := by omega
   have hta : s.data.toList.take s.size = s.data.toList := List.take_of_length_le (by rw [Ty.length_data]; exact Nat.le_refl _)
   have HSM : Hid (Fr.sum s.data.toList = Fr.reg Fr.ones (s.data.toList.take s.size) ^^^ 4294967295) := Lib.hid (by rw [hta]; rfl)
   generalize Fr.reg Fr.ones (s.data.toList.take s.size) = R at hr HSM ⊢
   have hx : bits .xor .u32 IntKind.u32.max (R : Int) = ((4294967295 ^^^ R : Nat) : Int) := u32_xor_nat 4294967295 R (by decide) hr
   go_wp2
   go_ret
   exact ⟨by rw [HSM.out, Nat.xor_comm]; rfl, rfl⟩
set_option maxHeartbeats 1000000 in
set_option maxRecDepth 100000 in
theorem Fr.four_c (n : Nat) (hn : n < 4294967296) (w : World) :
 Calls Tryz.prog 102 #[.int .u32 (n : Int)] w fun e w' => e = .returned (.string (Ty.S (Fr.four n))) ∧ Below w.heap.size w w' := by
 have hcv := (Fr.four_buf n hn w).str
 go_enter Tryz.func102, Tryz.ntmps102
 go_wp2
 go_ret
 exact ⟨rfl, (Below.refl _ _).alloc (Nat.le_refl _) _⟩
theorem Fr.or_add {a b k : Nat} (ha : a < 2 ^ k) : a ||| b * 2 ^ k = a + b * 2 ^ k := by
 rw [Nat.or_comm, ← Nat.shiftLeft_eq, Nat.add_comm, Nat.shiftLeft_add_eq_or_of_lt ha]
set_option maxHeartbeats 2000000 in
set_option maxRecDepth 100000 in
theorem Fr.numberOf_c (s : ByteArray) (h : 4 ≤ s.size) (w : World) :
 Calls Tryz.prog 136 #[.string s] w fun e w' => e = .returned (.int .u32 ((Fr.val (s.data.toList.take 4) : Nat) : Int)) ∧ ∃ n, w' = w.drewN n := by
 have hv := Fr.val4 h
 have h0 := (s[0]).toNat_lt
 have h1 := (s[1]).toNat_lt
 have h2 := (s[2]).toNat_lt
 have h3 := (s[3]).toNat_lt
 have z0 : (0 : Int) < (s.size : Int) := by omega
 have z1 : (1 : Int) < (s.size : Int) := by omega
 have z2 : (2 : Int) < (s.size : Int) := by omega
 have z3 : (3 : Int) < (s.size : Int) := by omega
 have n0 : 0 < s.size := by omega
 have n1 : 1 < s.size := by omega
 have n2 : 2 < s.size := by omega
 have n3 : 3 < s.size := by omega
 have o1 : bits .or .u32 ((s[0]).toNat : Int) (((s[1]).toNat : Int) * 256) = (((s[0]).toNat + (s[1]).toNat * 256 : Nat) : Int) := by
  have := u32_or_nat (s[0]).toNat ((s[1]).toNat * 256) (by omega) (by omega)
  rw [Fr.or_add (k := 8) (by omega)] at this
  exact this
 have o2 : bits .or .u32 (((s[0]).toNat + (s[1]).toNat * 256 : Nat) : Int) (((s[2]).toNat : Int) * 65536) = (((s[0]).toNat + (s[1]).toNat * 256 + (s[2]).toNat * 65536 : Nat) : Int) := by
  have := u32_or_nat ((s[0]).toNat + (s[1]).toNat * 256) ((s[2]).toNat * 65536) (by omega) (by omega)
  rw [Fr.or_add (k := 16) (by omega)] at this
  exact this
 have o3 : bits .or .u32 (((s[0]).toNat + (s[1]).toNat * 256 + (s[2]).toNat * 65536 : Nat) : Int) (((s[3]).toNat : Int) * 16777216) = ((Fr.val (s.data.toList.take 4) : Nat) : Int) := by
  have := u32_or_nat ((s[0]).toNat + (s[1]).toNat * 256 + (s[2]).toNat * 65536) ((s[3]).toNat * 16777216) (by omega) (by omega)
  rw [Fr.or_add (k := 24) (by omega), ← hv] at this
  exact this
 generalize Fr.val (s.data.toList.take 4) = V at o3 ⊢
 generalize (s[0]).toNat + (s[1]).toNat * 256 + (s[2]).toNat * 65536 = V2 at o2 o3
 generalize (s[0]).toNat + (s[1]).toNat * 256 = V1 at o1 o2
 clear hv
 go_enter Tryz.func136, Tryz.ntmps136
 go_wp2_with fail
 go_quiet (fail)
 go_wp2
 go_ret
 exact ⟨rfl, _, rfl⟩
end Go.Proofs.YtbelkhkllneifaaGreatDoor

namespace Go.Proofs.YtbelkhkllneifaaGreatDoor
open Go.RowKit
def Fr.fst (l : List UInt8) : List UInt8 × Nat :=
 if l.length < 4 then ([], 2) else if 1048576 < Fr.val (l.take 4) then ([], 8) else if l.length < Fr.val (l.take 4) + 8 then ([], 2)
 else if Fr.val ((l.drop (4 + Fr.val (l.take 4))).take 4) ≠ Fr.sum ((l.drop 4).take (Fr.val (l.take 4))) then ([], 8) else ((l.drop 4).take (Fr.val (l.take 4)), 0)
theorem Fr.Mid.fst {l : List UInt8} {a : Nat} {L : List Fr.Str} (h : Fr.Mid l a L) :
 ((Fr.fst (l.drop a)).2 = 2 ∧ Fr.scan l = (0, L, a)) ∨ ((Fr.fst (l.drop a)).2 = 8 ∧ Fr.scan l = (8, [], 0)) ∨
 ((Fr.fst (l.drop a)).2 = 0 ∧ (Fr.fst (l.drop a)).1.length ≤ 1048576 ∧ a + ((Fr.fst (l.drop a)).1.length + 8) ≤ l.length ∧ Fr.Mid l (a + ((Fr.fst (l.drop a)).1.length + 8)) (L ++ [(Fr.fst (l.drop a)).1])) := by
 by_cases h4 : (l.drop a).length < 4
 ·have e : Fr.fst (l.drop a) = ([], 2) := if_pos h4
  rw [e]
  exact .inl ⟨rfl, h.short h4⟩
 ·by_cases hb : 1048576 < Fr.val ((l.drop a).take 4)
  ·have e : Fr.fst (l.drop a) = ([], 8) := (if_neg h4).trans (if_pos hb)
   rw [e]
   exact .inr (.inl ⟨rfl, h.big h4 hb⟩)
  ·by_cases ht : (l.drop a).length < Fr.val ((l.drop a).take 4) + 8
   ·have e : Fr.fst (l.drop a) = ([], 2) := (if_neg h4).trans ((if_neg hb).trans (if_pos ht))
    rw [e]
    exact .inl ⟨rfl, h.torn h4 hb ht⟩
   ·by_cases hs : Fr.val (((l.drop a).drop (4 + Fr.val ((l.drop a).take 4))).take 4) = Fr.sum (((l.drop a).drop 4).take (Fr.val ((l.drop a).take 4)))
    ·have e : Fr.fst (l.drop a) = (((l.drop a).drop 4).take (Fr.val ((l.drop a).take 4)), 0) := (if_neg h4).trans ((if_neg hb).trans ((if_neg ht).trans (if_neg (fun h => h hs))))
     have hlen : (l.drop a).length = l.length - a := List.length_drop
     have hk : (((l.drop a).drop 4).take (Fr.val ((l.drop a).take 4))).length = Fr.val ((l.drop a).take 4) := by
      rw [List.length_take, List.length_drop]; omega
     have hn := h.next h4 hb ht hs
     have := h.1
     rw [e]
     refine .inr (.inr ⟨rfl, ?_⟩)
     rw [show (((l.drop a).drop 4).take (Fr.val ((l.drop a).take 4)), (0 : Nat)).1 = ((l.drop a).drop 4).take (Fr.val ((l.drop a).take 4)) from rfl, hk]
     exact ⟨by omega, by omega, hn⟩
    ·have e : Fr.fst (l.drop a) = ([], 8) := (if_neg h4).trans ((if_neg hb).trans ((if_neg ht).trans (if_pos hs)))
     rw [e]
     exact .inr (.inl ⟨rfl, h.wrong h4 hb ht hs⟩)
set_option maxHeartbeats 2000000 in
set_option maxRecDepth 100000 in
theorem Fr.first_c (g : Nat) (s : ByteArray) (hs : s.size ≤ 140737488355328) (w : World) (hT : Fr.Tab w g) :
 Calls Tryz.prog 111 #[.pointer (some ⟨g, 0, none⟩), .string s] w fun e w' => e = .returned (.tuple #[.string (Ty.S (Fr.fst s.data.toList).1), .int .i64 (((Fr.fst s.data.toList).2 : Nat) : Int)]) ∧ ∃ n, w' = w.drewN n := by
 obtain ⟨l, hl⟩ : ∃ l, l = s.data.toList := ⟨_, rfl⟩
 have hll : l.length = s.size := by rw [hl, Ty.length_data]
 rw [← hl]
 have HL := Lib.hid hl
 obtain ⟨R, hR⟩ : ∃ R, R = Fr.fst l := ⟨_, rfl⟩
 rw [← hR]
 have HRR := Lib.hid hR
 have HT := Lib.hid hT
 clear hR hT
 by_cases h4 : s.size < 4
 ·have h4i : (s.size : Int) < 4 := by omega
  have HE : Hid (R = ([], 2)) := Lib.hid (HRR.out.trans (if_pos (by omega)))
  clear hl hll h4
  go_enter Tryz.func111, Tryz.ntmps111
  go_wp2
  go_ret2
  exact ⟨by rw [HE.out]; rfl, 0, rfl⟩
 ·have h4i : ¬ (s.size : Int) < 4 := by omega
  have cn := Fr.numberOf_c s (by omega) w
  rw [← hl] at cn
  have hN32 : Fr.val (l.take 4) < 4294967296 := by
   have := Fr.val_lt (l.take 4)
   rw [List.length_take, Nat.min_eq_left (by omega)] at this
   exact this
  have FB : Hid (1048576 < Fr.val (l.take 4) → R = ([], 8)) := Lib.hid fun h => HRR.out.trans ((if_neg (by omega)).trans (if_pos h))
  have FT : Hid (¬ 1048576 < Fr.val (l.take 4) → s.size < Fr.val (l.take 4) + 8 → R = ([], 2)) := Lib.hid fun h h2 => HRR.out.trans ((if_neg (by omega)).trans ((if_neg h).trans (if_pos (by omega))))
  have FW : Hid (¬ 1048576 < Fr.val (l.take 4) → ¬ s.size < Fr.val (l.take 4) + 8 → Fr.val ((l.drop (4 + Fr.val (l.take 4))).take 4) ≠ Fr.sum ((l.drop 4).take (Fr.val (l.take 4))) → R = ([], 8)) := Lib.hid fun h h2 h3 => HRR.out.trans ((if_neg (by omega)).trans ((if_neg h).trans ((if_neg (by omega)).trans (if_pos h3))))
  have FN : Hid (¬ 1048576 < Fr.val (l.take 4) → ¬ s.size < Fr.val (l.take 4) + 8 → Fr.val ((l.drop (4 + Fr.val (l.take 4))).take 4) = Fr.sum ((l.drop 4).take (Fr.val (l.take 4))) → R = ((l.drop 4).take (Fr.val (l.take 4)), 0)) := Lib.hid fun h h2 h3 => HRR.out.trans ((if_neg (by omega)).trans ((if_neg h).trans ((if_neg (by omega)).trans (if_neg (fun hh => hh h3)))))
  generalize Fr.val (l.take 4) = N at cn hN32 FB FT FW FN
  clear hl h4
  go_enter Tryz.func111, Tryz.ntmps111
  go_wp2_with fail
  with_reducible refine cn.mono ?_
  rintro e w1 ⟨rfl, n1, hw1⟩
  have HT1 : Hid (Fr.Tab w1 g) := Lib.hid (Fr.Tab.kept HT.out (by rw [hw1]; exact Bt.drewN_below w n1))
  have HW1 := Lib.hid hw1
  clear hw1 cn HT
  by_cases hb : 1048576 < N
  ·have hbi : (1048576 : Int) < (N : Int) := by omega
   have HE := Lib.hid (FB.out hb)
   clear hb FT FW FN hll
   go_wp2
   go_ret2
   exact ⟨by rw [HE.out]; rfl, n1, HW1.out⟩
  ·have hbi : ¬ (1048576 : Int) < (N : Int) := by omega
   by_cases ht : s.size < N + 8
   ·have hti : (s.size : Int) < 4 + (N : Int) + 4 := by omega
    have HE := Lib.hid (FT.out hb (by omega))
    clear hb ht FW FN FB hll
    go_wp2
    go_ret2
    exact ⟨by rw [HE.out]; rfl, n1, HW1.out⟩
   ·have hti : ¬ (s.size : Int) < 4 + (N : Int) + 4 := by omega
    have hT : s.extract 4 (4 + N) = Ty.S ((l.drop 4).take N) := by rw [Fr.ext_at, HL.out, Nat.add_sub_cancel_left]
    have hY : s.extract (4 + N) s.size = Ty.S (l.drop (4 + N)) := by
     rw [Fr.ext_at, HL.out, List.take_of_length_le (by rw [List.length_drop, Ty.length_data]; omega)]
    have hTs : (Ty.S ((l.drop 4).take N)).size ≤ 1048576 := by rw [Ty.size_S, List.length_take]; omega
    have hYs : 4 ≤ (Ty.S (l.drop (4 + N))).size := by rw [Ty.size_S, List.length_drop]; omega
    have C1 : Hid (∀ m, Calls Tryz.prog 131 #[.pointer (some ⟨g, 0, none⟩), .string (Ty.S ((l.drop 4).take N))] (w1.drewN m) fun e w' => e = .returned (.int .u32 ((Fr.sum ((l.drop 4).take N) : Nat) : Int)) ∧ w' = w1.drewN m) := Lib.hid fun m => by
     have := Fr.tsum_c g (Ty.S ((l.drop 4).take N)) (by omega) (w1.drewN m) (Fr.Tab.kept HT1.out (Bt.drewN_below w1 m))
     rwa [Ty.data_S] at this
    have C2 : Hid (∀ m, Calls Tryz.prog 136 #[.string (Ty.S (l.drop (4 + N)))] (w1.drewN m) fun e w' => e = .returned (.int .u32 ((Fr.val ((l.drop (4 + N)).take 4) : Nat) : Int)) ∧ ∃ n, w' = (w1.drewN m).drewN n) := Lib.hid fun m => by
     have := Fr.numberOf_c (Ty.S (l.drop (4 + N))) hYs (w1.drewN m)
     rwa [Ty.data_S] at this
    have FW := Lib.hid (FW.out hb ht)
    have FN := Lib.hid (FN.out hb ht)
    generalize Fr.val ((l.drop (4 + N)).take 4) = V at C2 FW FN
    generalize Fr.sum ((l.drop 4).take N) = M at C1 FW FN
    generalize (l.drop 4).take N = K at hT hTs C1 FN
    generalize Ty.S (l.drop (4 + N)) = Y at hY hYs C2
    obtain ⟨T, hTT⟩ : ∃ T, T = Ty.S K := ⟨_, rfl⟩
    rw [← hTT] at hT hTs C1
    have HTT := Lib.hid hTT
    have t2 : (4 + (N : Int)).toNat = 4 + N := by omega
    have hN2 : N + 8 ≤ s.size := by omega
    have hN2i : (4 + (N : Int)) ≤ (s.size : Int) := by omega
    have hN4i : (4 : Int) ≤ 4 + (N : Int) := by omega
    clear hTT hb ht hll FB FT
    go_wp2_with fail
    go_quiet (first | (go_at_call 131; exact Calls.quiet_of_same (C1.out _)) | (go_at_call 136; exact Calls.quiet_of (C2.out _)))
    by_cases hv : V = M
    ·have hvi : ((M : Nat) : Int) = ((V : Nat) : Int) := by rw [hv]
     have HE := Lib.hid (FN.out hv)
     clear FW FN hv
     go_wp2
     go_ret2
     refine ⟨by rw [HE.out, HTT.out]; rfl, n1 + nq, ?_⟩
     rw [HW1.out]
     exact World.drewN_drewN _ _ _
    ·have hvi : ¬ ((M : Nat) : Int) = ((V : Nat) : Int) := by omega
     have HE := Lib.hid (FW.out hv)
     clear FW FN hv
     go_wp2
     go_ret2
     refine ⟨by rw [HE.out]; rfl, n1 + nq, ?_⟩
     rw [HW1.out]
     exact World.drewN_drewN _ _ _
end Go.Proofs.YtbelkhkllneifaaGreatDoor

namespace Go.Proofs.YtbelkhkllneifaaGreatDoor
open Go.RowKit
def Fr.W (w : World) : Prop := w = w
theorem Fr.W.below {w w' : World} (_ : Fr.W w) (_ : Below w.heap.size w w') : Fr.W w' := rfl
set_option maxHeartbeats 1000000 in
set_option maxRecDepth 100000 in
theorem Fr.sum_c (s : ByteArray) (hs : s.size ≤ 140737488355328) (w : World) (_ : Fr.W w) :
 Calls Tryz.prog 103 #[.string s] w fun e w' => e = .returned (.int .u32 ((Fr.sum s.data.toList : Nat) : Int)) ∧ Below w.heap.size w w' := by
 have c1 := Fr.steps_c w
 have C2 : Hid (∀ g wz, Fr.Tab wz g → Calls Tryz.prog 131 #[.pointer (some ⟨g, 0, none⟩), .string s] wz fun e w' => e = .returned (.int .u32 ((Fr.sum s.data.toList : Nat) : Int)) ∧ w' = wz) := Lib.hid fun g wz h => Fr.tsum_c g s hs wz h
 generalize Fr.sum s.data.toList = M at C2 ⊢
 clear hs
 go_enter Tryz.func103, Tryz.ntmps103
 go_wp2_with fail
 with_reducible refine c1.mono ?_
 rintro e w1 ⟨g, rfl, hT, g1⟩
 have c2 := C2.out g w1 hT
 have HB := Lib.hid g1
 clear c1 C2 hT g1
 go_wp2_with fail
 with_reducible refine c2.mono ?_
 rintro e w2 ⟨rfl, h2⟩
 subst w2
 clear c2
 go_wp2
 go_ret
 exact ⟨rfl, HB.out⟩
set_option maxHeartbeats 2000000 in
set_option maxRecDepth 100000 in
theorem Fr.write_c (s : ByteArray) (hs : s.size ≤ 140737488355328) (w : World) (_ : Fr.W w) :
 Calls Tryz.prog 70 #[.string s] w fun e w' => e = .returned (.string (Ty.S (Fr.frm s.data.toList))) ∧ Below w.heap.size w w' := by
 have hN : s.size % 4294967296 < 4294967296 := Nat.mod_lt _ (by decide)
 have hww : IntKind.u32.wrap (s.size : Int) = ((s.size % 4294967296 : Nat) : Int) := by rw [IntKind.wrap_u32]; omega
 have c1 := fun wz => Fr.four_c (s.size % 4294967296) hN wz
 have c2 := fun wz => Fr.sum_c s hs wz (by rfl)
 have c3 := fun wz => Fr.four_c (Fr.sum s.data.toList) (Fr.sum_lt _) wz
 have HF : Hid (Ty.S (Fr.frm s.data.toList) = (Ty.S (Fr.four (s.size % 4294967296)) ++ s) ++ Ty.S (Fr.four (Fr.sum s.data.toList))) := Lib.hid (by
  unfold Fr.frm
  rw [Fr.four_mod, Ty.length_data]
  conv => rhs; lhs; rhs; rw [← Ty.S_data s]
  rw [Fr.S_add, Fr.S_add, List.append_assoc])
 have e1 : (Ty.S (Fr.four (s.size % 4294967296))).size = 4 := rfl
 have e3 : (Ty.S (Fr.four (Fr.sum s.data.toList))).size = 4 := rfl
 obtain ⟨A, hA⟩ : ∃ A, A = Ty.S (Fr.four (s.size % 4294967296)) := ⟨_, rfl⟩
 obtain ⟨B, hB⟩ : ∃ B, B = Ty.S (Fr.four (Fr.sum s.data.toList)) := ⟨_, rfl⟩
 rw [← hA] at c1 HF e1
 rw [← hB] at c3 HF e3
 generalize Fr.sum s.data.toList = M at c2 c3
 generalize s.size % 4294967296 = N at c1 hww
 have n1 : ¬ 9223372036854775807 < A.size + s.size := by omega
 have n2 : ¬ 9223372036854775807 < A.size + s.size + B.size := by omega
 clear hA hB e1 e3 hN
 go_enter Tryz.func70, Tryz.ntmps70
 go_wp2_with fail
 with_reducible refine (c1 _).mono ?_
 rintro e w1 ⟨rfl, g1⟩
 have HB1 := Lib.hid g1
 clear g1 c1
 go_wp2_with fail
 with_reducible refine (c2 _).mono ?_
 rintro e w2 ⟨rfl, g2⟩
 have HB2 := Lib.hid (HB1.out.trans (g2.mono HB1.out.size))
 clear c2 g2 HB1
 go_wp2_with fail
 with_reducible refine (c3 _).mono ?_
 rintro e w3 ⟨rfl, g3⟩
 have HB3 := Lib.hid (HB2.out.trans (g3.mono HB2.out.size))
 clear g3 c3
 go_wp2
 go_ret
 exact ⟨by rw [HF.out]; rfl, HB3.out⟩
set_option maxHeartbeats 4000000 in
set_option maxRecDepth 100000 in
theorem Fr.scan_c (s : ByteArray) (hs : s.size ≤ 70368744177664) (w : World) (_ : Fr.W w) :
 Calls Tryz.prog 86 #[.string s] w (Fr.Got w (Fr.scan s.data.toList)) := by
 obtain ⟨l, hl⟩ : ∃ l, l = s.data.toList := ⟨_, rfl⟩
 have hll : l.length = s.size := by rw [hl, Ty.length_data]
 rw [← hl]
 have HL := Lib.hid hl
 have HLL := Lib.hid hll
 have HM0 := Lib.hid (Fr.Mid.start l)
 obtain ⟨R, hR⟩ : ∃ R, R = Fr.scan l := ⟨_, rfl⟩
 rw [← hR]
 have HRR := Lib.hid hR
 have c1 := Fr.steps_c w
 have CF : Hid (∀ g (t : ByteArray) wz, t.size ≤ 140737488355328 → Fr.Tab wz g → Calls Tryz.prog 111 #[.pointer (some ⟨g, 0, none⟩), .string t] wz fun e w' => e = .returned (.tuple #[.string (Ty.S (Fr.fst t.data.toList).1), .int .i64 (((Fr.fst t.data.toList).2 : Nat) : Int)]) ∧ ∃ n, w' = wz.drewN n) := Lib.hid fun g t wz h h2 => Fr.first_c g t h wz h2
 clear hR hl hll
 go_enter Tryz.func86, Tryz.ntmps86
 go_wp2_with fail
 with_reducible refine c1.mono ?_
 rintro e w0 ⟨g, rfl, hT0, g0⟩
 have HT0 := Lib.hid hT0
 have HB0 := Lib.hid g0
 clear c1 hT0 g0
 go_wp2
 go_loopw [5, 6, 8, 9] (fun ov av _ _ wr => ∃ (a : Nat) (L : List Fr.Str), av = .int .i64 a ∧ Fr.Mid l a L ∧ Tx.Own w0.heap.size wr ov L ∧ Below w0.heap.size w0 wr) (fun _ av _ _ _ => s.size - (intOf av).toNat)
 case atStart => exact ⟨0, [], rfl, HM0.out, Tx.Own.nil _ _, Below.refl _ _⟩
 case round =>
  obtain ⟨a, L, rfl, hM, hO, hb⟩ := hrel
  have hT := HT0.out.kept hb
  have has : a ≤ s.size := by have := hM.1; rw [HLL.out] at this; exact this
  have hL8 : 8 * L.length ≤ a := hM.2.1
  have hF := hM.fst
  have HO := Lib.hid hO
  have HB := Lib.hid hb
  have hws := hb.size
  have ha0 : (0 : Int) ≤ (a : Int) := by omega
  have hai : (a : Int) ≤ (s.size : Int) := by omega
  have hx : s.extract a s.size = Ty.S (l.drop a) := by
   rw [Fr.ext_at, HL.out, List.take_of_length_le (by rw [List.length_drop, Ty.length_data]; omega)]
  have cf := CF.out g (Ty.S (l.drop a)) wr (by rw [Ty.size_S, List.length_drop, HLL.out]; omega) hT
  rw [Ty.data_S] at cf
  rw [HLL.out] at hF
  generalize Ty.S (l.drop a) = X at hx cf
  obtain ⟨F, hFF⟩ : ∃ F, F = Fr.fst (l.drop a) := ⟨_, rfl⟩
  rw [← hFF] at cf hF
  obtain ⟨K, E⟩ := F
  simp only at cf hF
  have HF := Lib.hid hF
  obtain ⟨T, hTT⟩ : ∃ T, T = Ty.S K := ⟨_, rfl⟩
  rw [← hTT] at cf
  have HTT := Lib.hid hTT
  have hTs : T.size = K.length := by rw [hTT, Ty.size_S]
  clear hM hO hb HM0 hT HT0 hF hFF hTT CF
  go_wp2_with fail
  with_reducible refine cf.mono ?_
  rintro e w1 ⟨rfl, n1, hw1⟩
  have HB1 : Hid (Below w0.heap.size w0 w1) := Lib.hid (by rw [hw1]; exact HB.out.trans ((Bt.drewN_below _ _).mono hws))
  have HO1 : Hid (Tx.Own w0.heap.size w1 u5 L) := Lib.hid (by rw [hw1]; exact Bt.Buf.kept HO.out (Bt.drewN_below _ _))
  clear hw1 cf HO HB
  rcases HF.out with ⟨rfl, hS⟩ | ⟨rfl, hS⟩ | ⟨rfl, hK, hKs, hM⟩
  ·have HE := Lib.hid (HRR.out.trans hS)
   have HAT := Lib.hid (Tx.Own.at HO1.out)
   clear hS HF HTT hTs
   go_wp2
   go_ret3
   exact Fr.Got.good HE.out HAT.out (HB0.out.trans (HB1.out.mono HB0.out.size))
  ·have HE := Lib.hid (HRR.out.trans hS)
   clear hS HF HTT hTs
   go_wp2
   go_ret3
   exact Fr.Got.bad HE.out (HB0.out.trans (HB1.out.mono HB0.out.size))
  ·have HM := Lib.hid hM
   have cc := Tx.clone_c T w1 (by omega)
   have hLL : (L.length + 1) * 16 ≤ 140737488355328 := by omega
   clear hM HF
   go_wp2_with fail
   with_reducible refine cc.mono ?_
   rintro e w2 ⟨rfl, g2⟩
   have HB2 : Hid (Below w0.heap.size w0 w2) := Lib.hid (HB1.out.trans (g2.mono HB1.out.size))
   have hO2 : Tx.Own w0.heap.size w2 u5 L := Bt.Buf.kept HO1.out g2
   have hws2 := HB2.out.size
   clear cc g2 HB1 HO1
   go_wp2_with (at_builtin; refine Bt.wpList_append_one 9 111 (.string ⟨#[]⟩) 16 Tryz.underlying111 Tx.infoS rfl (hO2.pre K) hws2 hLL (by omega) (.tmp 23) (.tmp 26) _ rfl rfl rfl rfl rfl ?_; intro v3 w3 h3 g3)
   have HO3 := Lib.hid (Tx.Own.post (h3 (by rw [← Tx.sv_snoc, ← HTT.out])))
   have HB3 := Lib.hid (Tx.grew_below HB2.out hO2 g3)
   clear h3 g3 hO2 hLL
   go_wp2
   go_roundw
   case rel => exact ⟨a + (K.length + 8), L ++ [K], by congr 1, HM.out, HO3.out, HB3.out⟩
   case measure => simp [intOf]; omega
set_option maxHeartbeats 2000000 in
set_option maxRecDepth 100000 in
theorem Fr.all_c (s : ByteArray) (hs : s.size ≤ 70368744177664) (w : World) (hw : Fr.W w) :
 Calls Tryz.prog 59 #[.string s] w (Fr.GotA w (Fr.all s.data.toList)) := by
 have cr := Fr.scan_c s hs w hw
 have hle := Fr.scan_le s.data.toList
 rw [Ty.length_data] at hle
 have HA : Hid (Fr.all s.data.toList = if (Fr.scan s.data.toList).1 ≠ 0 then ((Fr.scan s.data.toList).1, []) else if (Fr.scan s.data.toList).2.2 < s.size then (2, []) else (0, (Fr.scan s.data.toList).2.1)) := Lib.hid (by rw [Fr.all, Ty.length_data])
 generalize Fr.all s.data.toList = R at HA ⊢
 generalize Fr.scan s.data.toList = q at cr hle HA
 obtain ⟨E, L, n⟩ := q
 simp only at hle HA
 unfold Fr.Got at cr
 simp only at cr
 clear hw
 go_enter Tryz.func59, Tryz.ntmps59
 go_wp2_with fail
 with_reducible refine cr.mono ?_
 rintro e w1 ⟨v, rfl, hV, g1⟩
 have HV := Lib.hid hV
 have HB1 := Lib.hid g1
 clear cr hV g1
 by_cases hE : E = 0
 ·have hEi : (E : Int) = 0 := by omega
  by_cases hn : n < s.size
  ·have hni : (n : Int) < (s.size : Int) := by omega
   have HR := Lib.hid (HA.out.trans ((if_neg (by simp [hE])).trans (if_pos hn)))
   clear hE hn HA
   go_wp2
   go_ret2
   exact Fr.GotA.bad HR.out HB1.out
  ·have hni : ¬ (n : Int) < (s.size : Int) := by omega
   have HR := Lib.hid (HA.out.trans ((if_neg (by simp [hE])).trans (if_neg hn)))
   clear hE hn HA
   go_wp2
   go_ret2
   exact Fr.GotA.good HR.out HV.out HB1.out
 ·have hEi : ¬ (E : Int) = 0 := by omega
  have HR := Lib.hid (HA.out.trans (if_pos hE))
  clear hE HA
  go_wp2
  go_ret2
  exact Fr.GotA.bad HR.out HB1.out
end Go.Proofs.YtbelkhkllneifaaGreatDoor

namespace Go.Proofs.YtbelkhkllneifaaGreatDoor
open Go.RowKit
open Ty (encU)
def Rn.ix (T : List Fr.Str) (k : Nat) : List UInt8 := encU T.length ++ (T.take k).flatMap fun t => encU (Fr.frm t).length
theorem Rn.ix_next {T : List Fr.Str} {k : Nat} (h : k < T.length) : Rn.ix T (k + 1) = Rn.ix T k ++ encU (T[k].length + 8) := by
 unfold Rn.ix
 rw [List.take_succ_eq_append_getElem h, List.flatMap_append, List.append_assoc, List.flatMap_cons, List.flatMap_nil, List.append_nil, Fr.frm_len]
theorem Rn.ix_len (T : List Fr.Str) : ∀ k, k ≤ T.length → (Rn.ix T k).length ≤ 9 + 9 * k
 | 0, _ => by
   unfold Rn.ix
   rw [List.take_zero, List.flatMap_nil, List.append_nil]
   exact Ty.encU_len9 _
 | k + 1, h => by
   have ih := Rn.ix_len T k (by omega)
   rw [Rn.ix_next (by omega), List.length_append]
   have := Ty.encU_len9 (T[k].length + 8)
   omega
theorem Rn.ix_index (s : List Kn.C) (L : List Dd.D) : Rn.ix ((Rn.blocks L).map (Bk.enc s)) ((Rn.blocks L).map (Bk.enc s)).length = Rn.index s L := by
 unfold Rn.ix Rn.index
 rw [List.take_length, List.length_map, Rn.blocks_len, List.flatMap_map]
set_option maxHeartbeats 4000000 in
set_option maxRecDepth 100000 in
theorem Rn.index_c (v : Value) (T : List Fr.Str) (w : World) (hT : Ty.Tabs w) (hv : Tx.At w.heap.size w v T) (hl : T.length ≤ 1048576) (ht : ∀ t ∈ T, t.length ≤ 6291520) :
 Calls Tryz.prog 61 #[v] w fun e w' => e = .returned (.string (Ty.S (Rn.ix T T.length))) ∧ Below w.heap.size w w' := by
 obtain ⟨a, c, rfl, _, _, h⟩ := hv
 have HH := Lib.hid h
 have HT := Lib.hid hT
 have HL := Lib.hid (And.intro hl ht)
 have cf := Fr.write_c ⟨#[]⟩ (by decide) w rfl
 obtain ⟨x, hx⟩ : ∃ x, x = Ty.S (Fr.frm (⟨#[]⟩ : ByteArray).data.toList) := ⟨_, rfl⟩
 rw [← hx] at cf
 have hx8 : x.size = 8 := by rw [hx]; rfl
 have hwk : IntKind.u64.wrap (T.length : Int) = (T.length : Int) := by rw [IntKind.wrap_u64]; omega
 clear h hT ht hl hx
 go_enter Tryz.func61, Tryz.ntmps61
 go_wp2_with fail
 with_reducible refine cf.mono ?_
 rintro e w1 ⟨rfl, g1⟩
 have HG1 := Lib.hid g1
 have cu := Ty.uintNil (T.length : Int) (by omega) (show Ty.U64 ((T.length : Int)).toNat by rw [Int.toNat_natCast]; unfold Ty.U64; have := HL.out.1; omega) w1 (HT.out.below HG1.out HT.out.two)
 rw [Int.toNat_natCast] at cu
 clear cf g1
 go_wp2_with fail
 with_reducible refine cu.mono ?_
 rintro e w2 ⟨v2, rfl, hO2, hT2, g2⟩
 have HO2 := Lib.hid hO2
 have HB2 := Lib.hid g2
 clear cu hO2 hT2 g2 hwk
 go_wp2_with fail
 go_loopw [4, 15] (fun out i wr => ∃ k : Nat, k ≤ T.length ∧ i = .int .i64 k ∧ Ty.Buf w1.heap.size wr out (Rn.ix T k) ∧ Below w1.heap.size w1 wr) (fun _ i _ => T.length - (intOf i).toNat)
 case atStart => exact ⟨0, Nat.zero_le _, rfl, by unfold Rn.ix; rw [List.take_zero, List.flatMap_nil, List.append_nil]; exact HO2.out, HB2.out⟩
 case round =>
  obtain ⟨k, hk, rfl, hO, hB⟩ := hrel
  have HO := Lib.hid hO
  have HB := Lib.hid hB
  have HIL := Lib.hid (Rn.ix_len T k hk)
  clear hO hB
  by_cases hkl : k < T.length
  ·rcases HH.out with ⟨h0, _⟩ | ⟨b, o, rfl, hb, hc⟩
   ·rw [h0] at hkl; simp at hkl
   ·have hx := List.getElem?_eq_getElem hkl
    have c0 := hc k hkl
    unfold Tx.sv at c0
    rw [List.getD_eq_getElem?_getD, hx, Option.getD_some] at c0
    have HN := Lib.hid (Rn.ix_next hkl)
    have hel := HL.out.2 _ (List.getElem_mem hkl)
    generalize T[k] = E at c0 HN hel
    have HBW := Lib.hid (HG1.out.trans (HB.out.mono HG1.out.size))
    have c0 := (HBW.out.cell (p := ⟨b, o + k, none⟩) hb).trans c0
    obtain ⟨y, hy⟩ : ∃ y, y = Ty.S E := ⟨_, rfl⟩
    have hys : y.size = E.length := by rw [hy]; rfl
    rw [← hy] at c0
    obtain ⟨n, hn⟩ : ∃ n, n = E.length := ⟨_, rfl⟩
    rw [← hn] at hys HN hel
    have hwn : IntKind.u64.wrap ((n : Int) + 8) = (n : Int) + 8 := by rw [IntKind.wrap_u64]; omega
    have dk : (k : Int) < (T.length : Int) := by omega
    have dk0 : (0 : Int) ≤ (k : Int) := by omega
    have dk7 : (k : Int) ≤ 1048576 := by have := HL.out.1; omega
    have hn7 : (n : Int) ≤ 6291520 := by omega
    have hn0 : (0 : Int) ≤ (n : Int) := by omega
    have cu := Ty.uint_c w1.heap.size _ _ ((n : Int) + 8) (by omega) (by unfold Ty.U64; omega) wr (HT.out.below HBW.out HT.out.two) HO.out HB.out.size (by have := HIL.out; have := HL.out.1; omega)
    rw [show ((n : Int) + 8).toNat = n + 8 by omega, ← HN.out] at cu
    have HK := Lib.hid hkl
    clear hk hkl hc hx hy hn hel hb
    go_wp2_with fail
    with_reducible refine cu.mono ?_
    rintro e w3 ⟨v3, rfl, hO3, g3⟩
    have HO3 := Lib.hid hO3
    have HB3 := Lib.hid (HB.out.trans (g3.below HB.out.size HO.out.base))
    clear cu hO3 g3 c0 hwn hys
    go_wp2
    go_roundw
    case rel => exact ⟨k + 1, HK.out, by simp, HO3.out, HB3.out⟩
    case measure => (have := HK.out; simp [intOf]; omega)
  ·obtain rfl : k = T.length := by omega
   have dk : ¬ (T.length : Int) < (T.length : Int) := by omega
   have hcv := HO.out.str
   clear hk hkl
   go_wp2
   go_ret
   exact ⟨rfl, HG1.out.trans (HB.out.mono HG1.out.size)⟩
end Go.Proofs.YtbelkhkllneifaaGreatDoor

namespace Go.Proofs.YtbelkhkllneifaaGreatDoor
open Go Go.RowKit
theorem Rn.all_enc {s : List Kn.C} {L : List Dd.D} (h : (Rn.enc s L).length ≤ 1048576) : Fr.all (Rn.enc s L) = (0, Rn.texts s L) := by
 unfold Fr.all
 rw [Rn.scan_enc h, if_neg (by simp), if_neg (by simp)]
theorem Rn.take_next {L : List Dd.D} (k : Nat) : L.take (8 * k) ++ Rn.bk L k = L.take (8 * (k + 1)) := by
 unfold Rn.bk
 rw [show 8 * (k + 1) = 8 * k + 8 by omega, List.take_add]
theorem Rn.fit_s {s : List Kn.C} (hr : Kn.right s = true) {d : Dd.D} (h : Dd.fitE s d = 0) : (∀ v ∈ d.row, Kn.Z v) ∧ d.row.length ≤ 6 ∧ d.row ≠ [] := by
 obtain ⟨_, h2, h3⟩ := Dd.fitE_0 h
 have h6 := Kn.right_len hr
 have hlen := h2
 rw [Bk.cols_len] at hlen
 refine ⟨fun v hv => ?_, by split at hlen <;> omega, fun e => by rw [e] at hlen; simp only [List.length_nil] at hlen; split at hlen <;> omega⟩
 obtain ⟨j, hj, rfl⟩ := List.mem_iff_getElem.1 hv
 have hc := List.getElem?_eq_getElem (l := Dd.cols s d.gone) (i := j) (by rw [← h2]; exact hj)
 have hg := Bk.good_of hr (Bk.cols_at.1 hc).1
 have hf := Bk.fitsAll_at _ _ h3 j _ _ hc (List.getElem?_eq_getElem hj)
 rw [Bk.fits_is hg] at hf
 unfold Kn.Z
 cases hv : d.row[j].null
 ·by_cases hk : (Dd.cols s d.gone)[j].k = 1
  ·rw [Cl.is_num hk hf hv]
   exact Nat.zero_le _
  ·have := (Cl.is_str hk hf hv).2
   rw [Bt.length_data] at this
   omega
 ·rw [(Cl.is_null hf hv).1]
  exact Nat.zero_le _
def Rn.Loaded (w : World) (s : List Kn.C) (L : List Dd.D) (e : Ending) (w' : World) : Prop := ∃ p, e = .returned (.tuple #[.pointer (some ⟨p, 0, none⟩), .int .i64 0]) ∧ Rn.P w' p s L ∧ Below w.heap.size w w'
set_option maxHeartbeats 8000000 in
set_option maxRecDepth 100000 in
theorem Rn.load_c (vs : Value) (s : List Kn.C) (L : List Dd.D) (w : World) (hT : Ty.Tabs w) (hs : Kn.Cols w vs s) (hE : Rn.wE s L = 0) (hi : ∀ d ∈ L, ∀ v ∈ d.row, Ty.I64 v.n) (h2 : L.length ≤ 200) :
 Calls Tryz.prog 31 #[vs, .string (Ty.S (Rn.enc s L))] w (Rn.Loaded w s L) := by
 obtain ⟨hr, hl1, hf, hso, hle⟩ := Rn.wE_0 hE
 have cR := Kn.right_c vs s w hs
 rw [hr] at cR
 have CA := Lib.hid fun wz => Fr.all_c (Ty.S (Rn.enc s L)) (by rw [Ty.size_S]; omega) wz rfl
 rw [Ty.data_S, Rn.all_enc hle] at CA
 unfold Fr.GotA at CA
 simp only [Int.natCast_zero] at CA
 have HT := Lib.hid hT
 have HS := Lib.hid hs
 have HF := Lib.hid fun d hd => Rn.fit_s hr (hf d hd)
 have HFE := Lib.hid hf
 have HR := Lib.hid hr
 have HNB : Hid (1 ≤ Rn.nb L.length ∧ Rn.nb L.length ≤ 25) := Lib.hid (by unfold Rn.nb; omega)
 have HL0 : Hid (L ≠ [] ∧ L.length ≤ 200) := Lib.hid ⟨fun e => by rw [e] at hl1; simp at hl1, h2⟩
 obtain ⟨Zf, hZf⟩ : ∃ Zf : Nat → Nat → Zn.Zo, Zf = fun i j => Zn.of (Bk.col (Rn.bk L i) j) := ⟨_, rfl⟩
 have HZF := Lib.hid hZf
 have CADD := Lib.hid fun (k : Nat) (hk : k < Rn.nb L.length) (B p : Nat) (wz : World) (d z : Value) M Z (ht : Ty.Tabs wz) (h1 : Kn.Cols wz vs s) (h : Rn.Ld B p s.length (L.take (8 * k)) Zf k wz d z M Z) (hB : B ≤ p) =>
  Rn.add_c vs s (Ty.S (Bk.enc s (Rn.bk L k))) (K := Rn.bk L k) ht h1 (by rw [Ty.size_S]; have := Rn.enc_few (Rn.bk_wE hr hf hso hk); omega) h hB (by rw [Ty.data_S]; exact Rn.rd_bk hE hi hk)
   (fun e => by have := (Rn.bk_some hk).1; rw [e] at this; simp at this) (by rw [List.length_take]; have := Rn.nb_le hk; omega) hr (fun x hx => hf x (Rn.bk_mem hx)) (fun x hx => (Rn.fit_s hr (hf x (Rn.bk_mem hx))).1) (fun j => by rw [hZf]) (by rw [List.length_take]; omega) (by have := HNB.out; omega)
 have HTX : Hid ((Rn.texts s L).length = Rn.nb L.length + 1 ∧ (∀ k, k < Rn.nb L.length → (Rn.texts s L).getD k [] = Bk.enc s (Rn.bk L k)) ∧ (Rn.texts s L).getD (Rn.nb L.length) [] = Rn.index s L) := Lib.hid
  ⟨Rn.texts_len s L, fun k hk => by rw [List.getD_eq_getElem?_getD, Rn.texts_at hk]; rfl, by rw [List.getD_eq_getElem?_getD, Rn.texts_last]; rfl⟩
 have CIX := Lib.hid fun (v : Value) (wz : World) (ht : Ty.Tabs wz) (h : Tx.At wz.heap.size wz v ((Rn.blocks L).map (Bk.enc s))) => Rn.index_c v _ wz ht h (by rw [List.length_map, Rn.blocks_len]; have := HNB.out; omega) (fun t ht => by
  obtain ⟨b, hb, rfl⟩ := List.mem_map.1 ht
  obtain ⟨i, hi, rfl⟩ := Rn.blocks_mem hb
  exact Rn.enc_few (Rn.bk_wE hr hf hso hi))
 rw [Rn.ix_index] at CIX
 have HTB : Hid (((Rn.blocks L).map (Bk.enc s)).length = Rn.nb L.length ∧ ∀ k, k < Rn.nb L.length → ((Rn.blocks L).map (Bk.enc s)).getD k [] = Bk.enc s (Rn.bk L k)) := Lib.hid ⟨by rw [List.length_map, Rn.blocks_len], fun k hk => by rw [List.getD_eq_getElem?_getD, List.getElem?_map, Rn.blocks_at L hk]; rfl⟩
 have CSO := Lib.hid fun (v : Value) (wz : World) (h : Bk.Ds wz v L) => Bk.psorted_c v L wz h (fun d hd => (HF.out d hd).1)
 rw [hso] at CSO
 generalize Rn.texts s L = T at CA HTX
 generalize (Rn.blocks L).map (Bk.enc s) = TB at CIX HTB
 generalize Ty.S (Rn.enc s L) = X at CA ⊢
 obtain ⟨sa, sc, rfl, -⟩ := hs
 clear hr hl1 hf hso hle hE hi h2 hT hZf
 go_enter Tryz.func31, Tryz.ntmps31
 go_wp2_with fail
 with_reducible refine cR.mono ?_
 rintro e w1 ⟨rfl, g1⟩
 have HG1 := Lib.hid g1
 clear cR g1
 go_wp2_with fail
 with_reducible refine (CA.out w1).mono ?_
 rintro e w2 ⟨v2, rfl, hv2, g2⟩
 have HG2 := Lib.hid (HG1.out.trans (g2.mono HG1.out.size))
 have HV2 := Lib.hid hv2
 obtain ⟨va, vc, rfl, hvc, _, hv⟩ := hv2
 obtain ⟨nb, hnb⟩ : ∃ nb, nb = Rn.nb L.length := ⟨_, rfl⟩
 have HNE := Lib.hid hnb
 have htl := HTX.out.1
 rw [← hnb] at htl
 rcases hv with ⟨h0, _⟩ | ⟨b, o, rfl, hb, hc⟩
 ·rw [h0] at htl; simp at htl
 have HC := Lib.hid (And.intro hb hc)
 rw [htl] at hvc hc ⊢
 have HVC := Lib.hid hvc
 have hnb1 : (1 : Int) ≤ (nb : Int) := by have := HNB.out; omega
 have hnb25 : (nb : Int) ≤ 25 := by have := HNB.out; omega
 have hvcI : (nb : Int) + 1 ≤ (vc : Int) := by omega
 have hwl : IntKind.i64.wrap ((nb : Int) + 1 - 1) = (nb : Int) := by rw [IntKind.wrap_i64]; omega
 clear g2 hnb htl hb hc hvc CA
 go_wp2_with fail
 have hst := Rn.Ld.start w2 s.length Zf w2.heap.size
 have HAL : Hid (Below w2.heap.size w2 (w2.alloc (.cells #[.slice none 0 0, .slice none 0 0] 92))) := Lib.hid ((Below.refl _ _).alloc (Nat.le_refl _) _)
 generalize w2.alloc _ = w3 at hst HAL ⊢
 have HST := Lib.hid hst
 obtain ⟨p, hp⟩ : ∃ p, p = w2.heap.size := ⟨_, rfl⟩
 rw [← hp] at HST ⊢
 have HP := Lib.hid hp
 clear hst hp hwl
 go_loopw [36] (fun i wr => ∃ k : Nat, k ≤ nb ∧ i = .int .i64 k ∧ (∃ d z M Z, Rn.Ld p p s.length (L.take (8 * k)) Zf k wr d z M Z) ∧ Below p w2 wr) (fun i _ => nb - (intOf i).toNat)
 case atStart => exact ⟨0, Nat.zero_le _, rfl, ⟨_, _, _, _, HST.out⟩, by rw [HP.out]; exact HAL.out⟩
 case round =>
  obtain ⟨k, hk, rfl, ⟨d, z, M, Z, hL⟩, hB⟩ := hrel
  have HLD := Lib.hid hL
  have HB : Hid (Below w2.heap.size w2 wr) := Lib.hid (by rw [← HP.out]; exact hB)
  have HBW := Lib.hid (HG2.out.trans (HB.out.mono HG2.out.size))
  clear hL hB
  by_cases hl : k < nb
  ·have c0 := (HB.out.cell (p := ⟨b, o + k, none⟩) HC.out.1).trans (HC.out.2 k (by have := HTX.out.1; rw [← HNE.out] at this; omega))
   unfold Tx.sv at c0
   rw [HTX.out.2.1 k (by rw [← HNE.out]; exact hl)] at c0
   have hkl : (k : Int) < (nb : Int) := by omega
   have hk0 : (0 : Int) ≤ (k : Int) := by omega
   have hk25 : (k : Int) ≤ 25 := by omega
   have ca := CADD.out k (by rw [← HNE.out]; exact hl) p p wr d z M Z (HT.out.below HBW.out HT.out.two) (HS.out.later HBW.out) HLD.out (Nat.le_refl _)
   rw [Rn.take_next] at ca
   generalize Ty.S (Bk.enc s (Rn.bk L k)) = E at c0 ca
   have HK := Lib.hid hl
   clear hk hl
   unfold Rn.Added at ca
   go_wp2_with fail
   with_reducible refine ca.mono ?_
   rintro e w5 ⟨rfl, h5, g5⟩
   have H5 := Lib.hid h5
   have HB5 : Hid (Below p w2 w5) := Lib.hid (by
    have := HB.out
    rw [← HP.out] at this
    exact this.trans g5)
   clear ca h5 g5 c0
   go_wp2
   go_roundw
   case rel => exact ⟨k + 1, HK.out, by simp, H5.out, HB5.out⟩
   case measure => (have := HK.out; simp [intOf]; omega)
  ·obtain rfl : k = nb := by omega
   have hkl : ¬ (k : Int) < (k : Int) := by omega
   have HPP : Hid (Rn.P wr p s L) := Lib.hid (by
    have := HLD.out
    rw [HNE.out, List.take_of_length_le (by unfold Rn.nb; omega)] at this
    exact this.done HL0.out.1 (fun x hx => (HF.out x hx).2.1) (fun i j hi hj => by rw [HZF.out, Rn.zone_in ⟨hi, hj⟩]))
   obtain ⟨_, dv, zv, e0, _, hds, _⟩ := HPP.out
   have HDS := Lib.hid hds
   have c0 := (HB.out.cell (p := ⟨b, o + k, none⟩) HC.out.1).trans (HC.out.2 k (by have := HTX.out.1; rw [← HNE.out] at this; omega))
   unfold Tx.sv at c0
   have htl := HTX.out.2.2
   rw [← HNE.out] at htl
   rw [htl] at c0
   have HTA : Hid (Tx.At wr.heap.size wr (.slice (some ⟨b, o, none⟩) k vc) TB) := Lib.hid
    ⟨_, vc, by rw [HTB.out.1, HNE.out], by rw [HTB.out.1, ← HNE.out]; have := HVC.out; omega, Nat.le_refl _, .inr ⟨b, o, rfl, Nat.lt_of_lt_of_le HC.out.1 HB.out.size, fun i hi => by
     rw [HTB.out.1] at hi
     rw [(HB.out.cell (p := ⟨b, o + i, none⟩) HC.out.1).trans (HC.out.2 i (by have := HTX.out.1; omega))]
     unfold Tx.sv
     rw [HTX.out.2.1 i hi, HTB.out.2 i hi]⟩⟩
   have hTI : ∀ pr : Regrown, Calls Tryz.prog 61 #[.slice (some ⟨b, o, none⟩) k vc] (Sort.grow (redrawn wr pr.d) pr.os) _ := fun pr => by
    have g := below_regrown wr pr.d pr.os
    exact CIX.out _ _ (HT.out.below (HBW.out.trans (g.mono HBW.out.size)) HT.out.two) ((HTA.out.below g).mono g.size (Nat.le_refl _))
   obtain ⟨y, hy⟩ : ∃ y, y = Ty.S (Rn.index s L) := ⟨_, rfl⟩
   rw [← hy] at c0 hTI
   have CA1 : Hid (∀ p : Regrown, _) := Lib.hid fun p : Regrown => Calls.regrown_of (d := p.d) (os := p.os) (w := wr) (CSO.out dv _ (HDS.out.later (below_regrown wr p.d p.os)))
   have CA2 : Hid (∀ p : Regrown, _) := Lib.hid fun p : Regrown => Calls.regrown_of (d := p.d) (os := p.os) (w := wr) (hTI p)
   obtain ⟨da, dc, rfl, -⟩ := hds
   have C0 := fun d os => cell_regrown c0 d os
   have E0 := fun d os => cell_regrown e0 d os
   have hk0 : (0 : Int) ≤ (k : Int) := by omega
   have hyy : (y.toList == y.toList) = true := by rw [beq_iff_eq]
   have HBF := Lib.hid (HBW.out)
   clear hk hl hTI htl c0 e0 hy HLD
   go_upto_region 14 with (fail)
   refine wp_region_quiet_below (by kernel_rfl) (by kernel_rfl) ?_
   repeat (go_big_quiet_step (first | with_reducible exact CA1.out _ | with_reducible exact CA2.out _))
   refine wpQuiet_nil ?_
   intro w5 hw'
   have g5 := Bk.below_reg hw'
   have HP5 := Lib.hid (HPP.out.later g5)
   have HB5 := Lib.hid (HBF.out.trans (g5.mono HBF.out.size))
   clear hw' g5
   go_wp2
   go_ret2
   exact ⟨p, rfl, HP5.out, HB5.out⟩
end Go.Proofs.YtbelkhkllneifaaGreatDoor

namespace Go.Proofs.YtbelkhkllneifaaGreatDoor
open Go Go.RowKit
structure Rn.Gd (s : List Kn.C) (L : List Dd.D) : Prop where
 ok : Rn.wE s L = 0
 few : L.length ≤ 200
theorem Rn.Gd.so {s : List Kn.C} {L : List Dd.D} (h : Rn.Gd s L) : Bk.sorted L = true := (Rn.wE_0 h.ok).2.2.2.1
theorem Rn.Gd.rt {s : List Kn.C} {L : List Dd.D} (h : Rn.Gd s L) : Kn.right s = true := (Rn.wE_0 h.ok).1
theorem Rn.Gd.ft {s : List Kn.C} {L : List Dd.D} (h : Rn.Gd s L) : ∀ d ∈ L, Dd.fitE s d = 0 := (Rn.wE_0 h.ok).2.2.1
theorem Rn.Gd.ne {s : List Kn.C} {L : List Dd.D} (h : Rn.Gd s L) : ∀ d ∈ L, d.row ≠ [] := fun d hd => (Rn.fit_s h.rt (h.ft d hd)).2.2
theorem Rn.Gd.zs {s : List Kn.C} {L : List Dd.D} (h : Rn.Gd s L) : Bk.Zs L := fun d hd => (Rn.fit_s h.rt (h.ft d hd)).1
set_option maxHeartbeats 2000000 in
set_option maxRecDepth 100000 in
theorem Rn.seek_c {w : World} {p : Nat} {s : List Kn.C} {L : List Dd.D} (h : Rn.P w p s L) (hg : Rn.Gd s L) (k : Kn.V) :
 Calls Tryz.prog 43 #[.pointer (some ⟨p, 0, none⟩), k.val] w fun e w' => e = .returned (.tuple #[.int .i64 (Rn.at_ L k : Nat), .bool (Rn.th L k)]) ∧ Below w.heap.size w w' := by
 have HP := Lib.hid h
 obtain ⟨hpl, d, z, c0, _, hd, -⟩ := h
 have hk := Kn.At.new w k 33
 have HB0 : Hid (Below w.heap.size w (w.alloc (.cells #[.bool k.null, .int .i64 k.n, .string k.s] 33))) := Lib.hid ((Below.refl _ _).alloc (Nat.le_refl _) _)
 have c1 := (HB0.out.cell (p := ⟨p, 0, none⟩) hpl).trans c0
 have HD := Lib.hid (hd.later HB0.out)
 have CS := Lib.hid fun (wz : World) (hv : Bk.Ds wz d L) => Rn.search_c d L k wz hv hg.so hg.ne (by have := hg.few; omega)
 obtain ⟨a, c, rfl, -⟩ := hd
 have y0 := hk.c0
 have y1 := hk.c1
 have y2 := hk.c2
 simp only [Nat.zero_add] at y1 y2
 generalize Rn.at_ L k = x at CS ⊢
 generalize Rn.th L k = t at CS ⊢
 unfold Kn.V.val at CS ⊢
 clear hpl c0 hk hg
 go_enter Tryz.func43, Tryz.ntmps43
 go_upto_region 3 with (fail)
 generalize w.alloc _ = w1 at c1 y0 y1 y2 HB0 HD ⊢
 have CA : Hid (∀ p : Regrown, _) := Lib.hid fun p : Regrown => Calls.regrown_of (d := p.d) (os := p.os) (w := w1) (CS.out _ (HD.out.later (below_regrown w1 p.d p.os)))
 have C1 := fun d os => cell_regrown c1 d os
 have Y0 := fun d os => cell_regrown y0 d os
 have Y1 := fun d os => cell_regrown y1 d os
 have Y2 := fun d os => cell_regrown y2 d os
 clear c1 y0 y1 y2
 refine wp_region_quiet_below (by kernel_rfl) (by kernel_rfl) ?_
 repeat (go_big_quiet_step (first | with_reducible exact CA.out _))
 refine wpQuiet_nil ?_
 intro w5 hw'
 have HB5 := Lib.hid (HB0.out.trans ((Bk.below_reg hw').mono HB0.out.size))
 clear hw'
 go_wp2
 go_ret2
 exact ⟨rfl, HB5.out⟩
theorem Rn.rw_vals {base : Nat} {w : World} {v : Value} {l : List Kn.V} (h : Sk.Rw base w v l) : Kn.Vals w v l := by
 rcases h.form with ⟨rfl, rfl⟩ | ⟨g, c, rfl, hc, hm, _, hg⟩
 ·exact ⟨none, 0, rfl, .inl rfl⟩
 ·refine ⟨_, c, rfl, .inr ⟨g, 0, rfl, hg, by unfold maxLen at hm; omega, fun i x hx => ?_⟩⟩
  rw [Nat.zero_add]
  exact ⟨h.cell Sk.ve_len (g := g) rfl hx (j := 0) (by decide), h.cell Sk.ve_len (g := g) rfl hx (j := 1) (by decide), h.cell Sk.ve_len (g := g) rfl hx (j := 2) (by decide)⟩
def Rn.GotD (w : World) (L : List Dd.D) (k : Kn.V) (e : Ending) (w' : World) : Prop :=
 ((Rn.th L k = false ∧ e = .returned (.tuple #[.agg #[.bool false, .slice none 0 0], .bool false])) ∨ ∃ d a n c, Rn.th L k = true ∧ L[Rn.at_ L k]? = some d ∧ e = .returned (.tuple #[.agg #[.bool d.gone, .slice a n c], .bool true]) ∧ Kn.Vals w' (.slice a n c) d.row) ∧ Below w.heap.size w w'
theorem Rn.vals_in {w : World} {v : Value} {l : List Kn.V} (h : Kn.Vals w v l) (hl : l ≠ []) (hz : ∀ x ∈ l, Kn.Z x) (h6 : l.length ≤ 4398046511104) : Sk.In w v l := by
 obtain ⟨a, c, rfl, h⟩ := h
 rcases h with h | ⟨b, o, rfl, hb, _, h⟩
 ·exact absurd h hl
 ·exact ⟨_, c, rfl, hz, h6, .inr ⟨b, o, rfl, hb, h⟩⟩
set_option maxHeartbeats 4000000 in
set_option maxRecDepth 100000 in
theorem Rn.get_c {w : World} {p : Nat} {s : List Kn.C} {L : List Dd.D} (h : Rn.P w p s L) (hg : Rn.Gd s L) (k : Kn.V) :
 Calls Tryz.prog 17 #[.pointer (some ⟨p, 0, none⟩), k.val] w (Rn.GotD w L k) := by
 have HP := Lib.hid h
 have HG := Lib.hid hg
 have CS := Lib.hid fun (wz : World) (g : Below w.heap.size w wz) => Rn.seek_c (h.later g) hg k
 obtain ⟨w1, hw1⟩ : ∃ w1, w1 = (w.alloc (.cells #[.bool k.null, .int .i64 k.n, .string k.s] 33)).alloc (.cells #[.bool false, .slice none 0 0] 41) := ⟨_, rfl⟩
 have HB1 : Hid (Below w.heap.size w w1 ∧ w1.heap.size = w.heap.size + 2) := Lib.hid (by rw [hw1]; exact ⟨Kn.box2 _ _ _, by simp⟩)
 have hk : Kn.At w1 w.heap.size 0 k := by rw [hw1]; exact (Kn.At.new w k 33).alloc _
 have hr : w1.heap[w.heap.size + 1]? = some (.cells #[.bool false, .slice none 0 0] 41 (0, 0)) := by
  rw [hw1]
  have := heap_alloc_new (w.alloc (.cells #[.bool k.null, .int .i64 k.n, .string k.s] 33)) (.cells #[.bool false, .slice none 0 0] 41)
  rwa [World.size_alloc] at this
 have HR := Lib.hid hr
 have y0 := hk.c0
 have y1 := hk.c1
 have y2 := hk.c2
 simp only [Nat.zero_add] at y1 y2
 have cs := CS.out w1 HB1.out.1
 obtain ⟨q, hq⟩ : ∃ q, q = w.heap.size := ⟨_, rfl⟩
 have HQ := Lib.hid hq
 rw [← hq] at y0 y1 y2 HR
 have HTS := Lib.hid fun h => Rn.th_some (L := L) (k := k) h
 have HPF : Hid (∀ W, Below w.heap.size w W → Rn.th L k = false → Rn.GotD w L k (.returned (.tuple #[.agg #[.bool false, .slice none 0 0], .bool false])) W) := Lib.hid fun W g h => ⟨.inl ⟨h, rfl⟩, g⟩
 have HPT : Hid (∀ W d a n c, Below w.heap.size w W → Rn.th L k = true → L[Rn.at_ L k]? = some d → Kn.Vals W (.slice a n c) d.row → Rn.GotD w L k (.returned (.tuple #[.agg #[.bool d.gone, .slice a n c], .bool true])) W) := Lib.hid fun W d a n c g h1 h2 h3 => ⟨.inr ⟨d, a, n, c, h1, h2, rfl, h3⟩, g⟩
 generalize Rn.GotD w L k = post at HPF HPT ⊢
 generalize Rn.at_ L k = x at cs HTS HPT
 unfold Kn.V.val at cs ⊢
 cases ht : Rn.th L k
 ·rw [ht] at cs
  have HT := Lib.hid ht
  clear h hg hk hr ht
  go_enter Tryz.func17, Tryz.ntmps17
  go_upto_region 1 with (fail)
  rw [← hw1, ← hq]
  clear hw1 hq
  go_wp2_with fail
  with_reducible refine cs.mono ?_
  rintro e w2 ⟨rfl, g2⟩
  have hr2 := (g2.block (q + 1) (Array.getElem?_eq_some_iff.1 HR.out).1).trans HR.out
  have r0 : w2.cell? ⟨q + 1, 0, none⟩ = some (.bool false) := by rw [cell_of_row _ _ _ _ _ _ hr2]; rfl
  have r1 : w2.cell? ⟨q + 1, 1, none⟩ = some (.slice none 0 0) := by rw [cell_of_row _ _ _ _ _ _ hr2]; rfl
  have f0 := frozen_of_row _ _ 0 _ _ hr2
  have f1 := frozen_of_row _ _ 1 _ _ hr2
  have HE : Hid (Below w.heap.size w ((w2.setCell ⟨q + 1, 0, none⟩ (.bool false)).setCell ⟨q + 1, 1, none⟩ (.slice none 0 0))) := Lib.hid (Sk.put2 (HB1.out.1.trans (g2.mono HB1.out.1.size)) (by rw [HQ.out]; omega) _ _)
  clear cs hr2 g2 y0 y1 y2
  go_wp2
  (try simp only [Exit.inBlock, Exit.then])
  refine bodyPost_ret (v := .tuple #[.agg #[.bool false, .slice none 0 0], .bool false]) ?_ rfl (HPF.out _ HE.out HT.out)
  rw [results_cell_tmp rfl]
  go_simp
 ·rw [ht] at cs
  obtain ⟨d, hd, -⟩ := HTS.out ht
  have HT := Lib.hid ht
  have HX := Lib.hid hd
  obtain ⟨hpl, dv, z, c0, _, hds, -⟩ := id h
  obtain ⟨a, c, rfl, _, _, hds⟩ := hds
  rcases hds with h0 | ⟨b, o, rfl, hb, hc⟩
  ·rw [h0] at hd; simp at hd
  obtain ⟨u, e0, e1, hu⟩ := hc x d hd
  have hne := hg.ne d (List.mem_of_getElem? hd)
  have hin := Rn.vals_in hu hne (hg.zs d (List.mem_of_getElem? hd)) (by have := (Rn.fit_s hg.rt (hg.ft d (List.mem_of_getElem? hd))).2.1; omega)
  obtain ⟨ua, uc, rfl, -⟩ := hu
  have HIN := Lib.hid hin
  have hxl : x < L.length := (List.getElem?_eq_some_iff.1 hd).1
  have hxI : (x : Int) < (L.length : Int) := by omega
  have hx0 : (0 : Int) ≤ (x : Int) := by omega
  have HCS : Hid (∀ W, Below w.heap.size w W → W.cell? ⟨p, 0, none⟩ = some (.slice (some ⟨b, o, none⟩) L.length c) ∧ W.cell? ⟨b, o + x * 2, none⟩ = some (.bool d.gone) ∧ W.cell? ⟨b, o + x * 2 + 1, none⟩ = some (.slice ua d.row.length uc)) := Lib.hid fun W g =>
   ⟨(g.cell (p := ⟨p, 0, none⟩) hpl).trans c0, (g.cell (p := ⟨b, o + x * 2, none⟩) hb).trans e0, (g.cell (p := ⟨b, o + x * 2 + 1, none⟩) hb).trans e1⟩
  clear h hg hk hr ht hc hd hne hin hxl hpl c0 e0 e1 hb
  go_enter Tryz.func17, Tryz.ntmps17
  go_upto_region 1 with (fail)
  rw [← hw1, ← hq]
  clear hw1 hq
  go_wp2_with fail
  with_reducible refine cs.mono ?_
  rintro e w2 ⟨rfl, g2⟩
  have HB2 := Lib.hid (HB1.out.1.trans (g2.mono HB1.out.1.size))
  have HR2 := Lib.hid ((g2.block (q + 1) (Array.getElem?_eq_some_iff.1 HR.out).1).trans HR.out)
  obtain ⟨c0, e0, e1⟩ := HCS.out w2 HB2.out
  have cg := Rn.given_c d.gone (HIN.out.later HB2.out)
  have HPD := Lib.hid fun W a n c h1 h2 => HPT.out W d a n c h1 HT.out HX.out h2
  generalize d.gone = dg at e0 cg HPD
  generalize d.row.length = dn at e1 cg
  clear cs g2 y0 y1 y2
  go_wp2_with fail
  with_reducible refine cg.mono ?_
  rintro e w3 ⟨u, rfl, hu, g3⟩
  obtain ⟨va, vn, vc, rfl⟩ : ∃ a n c, u = .slice a n c := by
   rcases hu.form with ⟨e, _⟩ | ⟨g, c, e, _⟩
   ·exact ⟨none, 0, 0, e⟩
   ·exact ⟨_, _, c, e⟩
  have hr3 := (g3.block (q + 1) (Array.getElem?_eq_some_iff.1 HR2.out).1).trans HR2.out
  have r0 : w3.cell? ⟨q + 1, 0, none⟩ = some (.bool false) := by rw [cell_of_row _ _ _ _ _ _ hr3]; rfl
  have r1 : w3.cell? ⟨q + 1, 1, none⟩ = some (.slice none 0 0) := by rw [cell_of_row _ _ _ _ _ _ hr3]; rfl
  have f0 := frozen_of_row _ _ 0 _ _ hr3
  have f1 := frozen_of_row _ _ 1 _ _ hr3
  have HE : Hid (Below w.heap.size w ((w3.setCell ⟨q + 1, 0, none⟩ (.bool dg)).setCell ⟨q + 1, 1, none⟩ (.slice va vn vc)) ∧ Kn.Vals ((w3.setCell ⟨q + 1, 0, none⟩ (.bool dg)).setCell ⟨q + 1, 1, none⟩ (.slice va vn vc)) (.slice va vn vc) d.row) := Lib.hid
   ⟨Sk.put2 (HB2.out.trans (g3.mono HB2.out.size)) (by rw [HQ.out]; omega) _ _, by
    have hqw := (Array.getElem?_eq_some_iff.1 HR2.out).1
    exact Rn.rw_vals ((hu.put (i := 0) (u := .bool dg) hqw).put (i := 1) (u := .slice va vn vc) hqw)⟩
  clear cg hr3 g3 hu c0 e0 e1
  go_wp2
  (try simp only [Exit.inBlock, Exit.then])
  refine bodyPost_ret (v := .tuple #[.agg #[.bool dg, .slice va vn vc], .bool true]) ?_ rfl (HPD.out _ _ _ _ HE.out.1 HE.out.2)
  rw [results_cell_tmp rfl]
  go_simp
end Go.Proofs.YtbelkhkllneifaaGreatDoor
