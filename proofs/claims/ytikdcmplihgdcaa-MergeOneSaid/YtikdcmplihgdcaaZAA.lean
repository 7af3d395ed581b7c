import Derived.Test.YtikdcmplihgdcaaRows
import GoSem.Op.String
import Derived.WalkKit
import Derived.WalkSpells
import Derived.WalkLawsBesides
import Derived.Laws.StructEq
import Derived.Lib.QuietBelow
import Derived.Deep.RegionWith
import Derived.Deep.DeepCutAuto
import Derived.BigQuiet
import Derived.StillTailTactics
import Derived.Lib.Hide
import Derived.Deep.QuietTactic
import Derived.IntWalk
import Derived.Laws.BitsLemmas
import Derived.Laws.Bits64
namespace Go.Proofs.Ytikdcmplihgdcaa.Kn
open Go
theorem bl_irrefl : ∀ l : List UInt8, Op.bytesLess l l = false
 | [] => rfl
 | a :: l => by simp [Op.bytesLess, bl_irrefl l]
theorem bl_total : ∀ a b : List UInt8, Op.bytesLess a b = true ∨ a = b ∨ Op.bytesLess b a = true
 | [], [] => .inr (.inl rfl)
 | [], _ :: _ => .inl rfl
 | _ :: _, [] => .inr (.inr rfl)
 | a :: x, b :: y => by
   rcases Nat.lt_trichotomy a.toNat b.toNat with h | h | h
   ·left; simp [Op.bytesLess, UInt8.lt_iff_toNat_lt, h]
   ·have e : a = b := UInt8.toNat_inj.1 h
    subst e
    rcases bl_total x y with g | g | g
    ·left; simp [Op.bytesLess, g]
    ·right; left; rw [g]
    ·right; right; simp [Op.bytesLess, g]
   ·right; right; simp [Op.bytesLess, UInt8.lt_iff_toNat_lt, h]
theorem bl_trans : ∀ a b c : List UInt8, Op.bytesLess a b = true → Op.bytesLess b c = true → Op.bytesLess a c = true
 | _, [], _, h, _ => by simp [Op.bytesLess] at h
 | _, _ :: _, [], _, h => by simp [Op.bytesLess] at h
 | [], _ :: _, _ :: _, _, _ => rfl
 | a :: x, b :: y, c :: z, h, k => by
   simp only [Op.bytesLess, Bool.or_eq_true, decide_eq_true_eq, Bool.and_eq_true, beq_iff_eq, UInt8.lt_iff_toNat_lt] at h k ⊢
   rcases h with h | ⟨rfl, h⟩ <;> rcases k with k | ⟨rfl, k⟩
   ·left; omega
   ·left; exact h
   ·left; exact k
   ·right; exact ⟨rfl, bl_trans x y z h k⟩
theorem bl_asymm (a b : List UInt8) (h : Op.bytesLess a b = true) : Op.bytesLess b a = false := by
 cases hb : Op.bytesLess b a with
 | false => rfl
 | true => have := bl_trans a b a h hb; rw [bl_irrefl] at this; cases this
structure V where
 null : Bool
 n : Int
 s : ByteArray
abbrev V.val (v : V) : Value := .agg #[.bool v.null, .int .i64 v.n, .string v.s]
def ncmp (a b : Int) : Int := if a < b then -1 else if b < a then 1 else 0
def lcmp (a b : List UInt8) : Int := if Op.bytesLess a b = true then -1 else if Op.bytesLess b a = true then 1 else 0
def scmp (a b : ByteArray) : Int := lcmp a.toList b.toList
def or2 (x y : Int) : Int := if x = 0 then y else x
def cmp (a b : V) : Int := if a.null = true then (if b.null = true then 0 else -1) else if b.null = true then 1 else or2 (ncmp a.n b.n) (scmp a.s b.s)
structure Fair (x y z x' y' z' : Int) : Prop where
 xr : -1 ≤ x ∧ x ≤ 1
 yr : -1 ≤ y ∧ y ≤ 1
 zr : -1 ≤ z ∧ z ≤ 1
 xa : x' = -x
 ya : y' = -y
 za : z' = -z
 le : x ≤ 0 → y ≤ 0 → z ≤ 0
 lt : x ≤ 0 → y ≤ 0 → z = 0 → x = 0 ∧ y = 0
 ge : x ≥ 0 → y ≥ 0 → z ≥ 0
 gt : x ≥ 0 → y ≥ 0 → z = 0 → x = 0 ∧ y = 0
theorem ncmp_fair (a b c : Int) : Fair (ncmp a b) (ncmp b c) (ncmp a c) (ncmp b a) (ncmp c b) (ncmp c a) := by
 unfold ncmp
 constructor <;> (repeat' split) <;> omega
theorem bl_ne {a b : List UInt8} (h : Op.bytesLess a b = true) : Op.bytesLess b a = false ∧ a ≠ b := ⟨bl_asymm a b h, fun e => by rw [e, bl_irrefl] at h; cases h⟩
theorem lcmp_lt {a b : List UInt8} (h : Op.bytesLess a b = true) : lcmp a b = -1 ∧ lcmp b a = 1 := by simp [lcmp, h, bl_asymm a b h]
theorem lcmp_self (a : List UInt8) : lcmp a a = 0 := by simp [lcmp, bl_irrefl]
theorem lcmp_anti (a b : List UInt8) : lcmp b a = -lcmp a b ∧ -1 ≤ lcmp a b ∧ lcmp a b ≤ 1 := by
 rcases bl_total a b with h | rfl | h
 ·rw [(lcmp_lt h).1, (lcmp_lt h).2]; omega
 ·rw [lcmp_self]; omega
 ·rw [(lcmp_lt h).1, (lcmp_lt h).2]; omega
theorem lcmp_chain (a b c : List UInt8) (h1 : lcmp a b ≤ 0) (h2 : lcmp b c ≤ 0) : lcmp a c ≤ 0 ∧ (lcmp a c = 0 → lcmp a b = 0 ∧ lcmp b c = 0) := by
 rcases bl_total a b with h | rfl | h
 ·rcases bl_total b c with k | rfl | k
  ·have := (lcmp_lt (bl_trans a b c h k)).1
   omega
  ·rw [lcmp_self]; omega
  ·have := (lcmp_lt k).2; omega
 ·rw [lcmp_self]; omega
 ·have := (lcmp_lt h).2; omega
theorem lcmp_fair (a b c : List UInt8) : Fair (lcmp a b) (lcmp b c) (lcmp a c) (lcmp b a) (lcmp c b) (lcmp c a) := by
 have h1 := lcmp_anti a b
 have h2 := lcmp_anti b c
 have h3 := lcmp_anti a c
 have h4 := lcmp_chain a b c
 have h5 := lcmp_chain c b a
 constructor <;> omega
theorem lex_fair {x y z x' y' z' p q r p' q' r' : Int} (h : Fair x y z x' y' z') (k : Fair p q r p' q' r') : Fair (or2 x p) (or2 y q) (or2 z r) (or2 x' p') (or2 y' q') (or2 z' r') := by
 obtain ⟨⟨h1, h2⟩, ⟨h3, h4⟩, ⟨h5, h6⟩, rfl, rfl, rfl, h10, h11, h12, h13⟩ := h
 obtain ⟨⟨k1, k2⟩, ⟨k3, k4⟩, ⟨k5, k6⟩, rfl, rfl, rfl, k10, k11, k12, k13⟩ := k
 unfold or2
 constructor <;> (repeat' split) <;> omega
theorem cmp_fair (a b c : V) : Fair (cmp a b) (cmp b c) (cmp a c) (cmp b a) (cmp c b) (cmp c a) := by
 have h := lex_fair (ncmp_fair a.n b.n c.n) (show Fair (scmp a.s b.s) (scmp b.s c.s) (scmp a.s c.s) (scmp b.s a.s) (scmp c.s b.s) (scmp c.s a.s) from lcmp_fair a.s.toList b.s.toList c.s.toList)
 unfold cmp
 cases a.null <;> cases b.null <;> cases c.null <;> simp only [Bool.false_eq_true, if_false, if_true]
 ·exact h
 all_goals
  obtain ⟨⟨h1, h2⟩, ⟨h3, h4⟩, ⟨h5, h6⟩, h7, h8, h9, h10, h11, h12, h13⟩ := h
  constructor <;> omega
theorem lcmp_zero (a b : List UInt8) : lcmp a b = 0 ↔ a = b := by
 rcases bl_total a b with h | rfl | h
 ·rw [(lcmp_lt h).1]; exact ⟨fun e => by omega, fun e => absurd e (bl_ne h).2⟩
 ·simp [lcmp_self]
 ·rw [(lcmp_lt h).2]; exact ⟨fun e => by omega, fun e => absurd e.symm (bl_ne h).2⟩
theorem ncmp_zero (a b : Int) : ncmp a b = 0 ↔ a = b := by unfold ncmp; repeat' split <;> omega
theorem or2_zero (x y : Int) : or2 x y = 0 ↔ x = 0 ∧ y = 0 := by unfold or2; split <;> omega
def same (a b : V) : Bool := (a.null && b.null) || ((!a.null && !b.null) && a.n == b.n && a.s.toList == b.s.toList)
theorem cmp_zero (a b : V) : (cmp a b == 0) = same a b := by
 rw [Bool.eq_iff_iff, beq_iff_eq]
 unfold cmp same
 cases a.null <;> cases b.null <;> simp [or2_zero, ncmp_zero, scmp, lcmp_zero]
end Go.Proofs.Ytikdcmplihgdcaa.Kn
namespace Go.Proofs.Ytikdcmplihgdcaa
open Go.RowKit
set_option maxRecDepth 100000 in
theorem Kn.isNaNi_c (a : Int) (w : World) : Calls Try.prog 44 #[.int .i64 a] w fun e w' => e = .returned (.bool false) ∧ w' = w := by
 go_enter Try.func44, Try.ntmps44
 go_wp2
 go_ret
 exact ⟨rfl, rfl⟩
set_option maxRecDepth 100000 in
theorem Kn.isNaNs_c (a : ByteArray) (w : World) : Calls Try.prog 45 #[.string a] w fun e w' => e = .returned (.bool false) ∧ w' = w := by
 go_enter Try.func45, Try.ntmps45
 go_wp2
 go_ret
 exact ⟨rfl, rfl⟩
set_option maxRecDepth 100000 in
theorem Kn.cmpi_c (a b : Int) (w : World) : Calls Try.prog 36 #[.int .i64 a, .int .i64 b] w fun e w' => e = .returned (.int .i64 (Kn.ncmp a b)) ∧ w' = w := by
 have hc : (a < b ∧ Kn.ncmp a b = -1) ∨ (¬ a < b ∧ b < a ∧ Kn.ncmp a b = 1) ∨ (¬ a < b ∧ ¬ b < a ∧ Kn.ncmp a b = 0) := by unfold Kn.ncmp; repeat' split <;> omega
 rcases hc with ⟨h1, h⟩ | ⟨h1, h2, h⟩ | ⟨h1, h2, h⟩
 all_goals
  rw [h]
  go_enter Try.func36, Try.ntmps36
  go_wp2_with fail
  refine (Kn.isNaNi_c _ _).mono ?_
  rintro e w1 ⟨rfl, rfl⟩
  go_wp2_with fail
  refine (Kn.isNaNi_c _ _).mono ?_
  rintro e w1 ⟨rfl, rfl⟩
  go_wp2
  go_ret
  exact ⟨rfl, rfl⟩
set_option maxRecDepth 100000 in
theorem Kn.cmps_c (a b : ByteArray) (w : World) : Calls Try.prog 37 #[.string a, .string b] w fun e w' => e = .returned (.int .i64 (Kn.scmp a b)) ∧ w' = w := by
 have hc : (Op.bytesLess a.toList b.toList = true ∧ Kn.scmp a b = -1) ∨ (Op.bytesLess a.toList b.toList = false ∧ (a.toList == b.toList) = false ∧ Kn.scmp a b = 1) ∨ (Op.bytesLess a.toList b.toList = false ∧ (a.toList == b.toList) = true ∧ Kn.scmp a b = 0) := by
  unfold Kn.scmp Kn.lcmp
  rcases Kn.bl_total a.toList b.toList with h | h | h
  ·left; rw [h]; exact ⟨rfl, rfl⟩
  ·right; right; rw [h, Kn.bl_irrefl]; exact ⟨rfl, by simp, rfl⟩
  ·right; left; rw [h, (Kn.bl_ne h).1]; exact ⟨rfl, by rw [beq_eq_false_iff_ne]; exact fun e => (Kn.bl_ne h).2 e.symm, rfl⟩
 rcases hc with ⟨h1, h⟩ | ⟨h1, h2, h⟩ | ⟨h1, h2, h⟩
 all_goals
  rw [h]
  go_enter Try.func37, Try.ntmps37
  go_wp2_with fail
  refine (Kn.isNaNs_c _ _).mono ?_
  rintro e w1 ⟨rfl, rfl⟩
  go_wp2_with fail
  refine (Kn.isNaNs_c _ _).mono ?_
  rintro e w1 ⟨rfl, rfl⟩
  go_wp2
  go_ret
  exact ⟨rfl, rfl⟩
set_option maxRecDepth 100000 in
theorem Kn.or_c (b : Nat) (x y : Int) (w : World) (h0 : w.cell? ⟨b, 0, none⟩ = some (.int .i64 x)) (h1 : w.cell? ⟨b, 1, none⟩ = some (.int .i64 y)) :
 Calls Try.prog 35 #[.slice (some ⟨b, 0, none⟩) 2 2] w fun e w' => e = .returned (.int .i64 (Kn.or2 x y)) ∧ w' = w := by
 have hc : ((x != 0) = true ∧ Kn.or2 x y = x) ∨ ((x != 0) = false ∧ (y != 0) = true ∧ Kn.or2 x y = y) ∨ ((x != 0) = false ∧ (y != 0) = false ∧ Kn.or2 x y = 0) := by
  unfold Kn.or2
  by_cases hx : x = 0 <;> by_cases hy : y = 0 <;> simp [hx, hy]
 rcases hc with ⟨h2, h⟩ | ⟨h2, h3, h⟩ | ⟨h2, h3, h⟩
 ·rw [h]
  go_enter Try.func35, Try.ntmps35
  go_wp2_with fail
  refine wp_loop_rounds 3 ?_; rw [rounds_succ]
  go_wp2
  go_ret
  exact ⟨rfl, rfl⟩
 ·rw [h]
  go_enter Try.func35, Try.ntmps35
  go_wp2_with fail
  refine wp_loop_rounds 3 ?_; rw [rounds_succ]
  go_wp2
  rw [rounds_succ]
  go_wp2
  go_ret
  exact ⟨rfl, rfl⟩
 ·rw [h]
  go_enter Try.func35, Try.ntmps35
  go_wp2_with fail
  refine wp_loop_rounds 3 ?_; rw [rounds_succ]
  go_wp2
  rw [rounds_succ]
  go_wp2
  rw [rounds_succ]
  go_wp2
  go_ret
  exact ⟨rfl, rfl⟩
set_option maxRecDepth 100000 in
theorem Kn.new2 (w : World) (x y : Value) (t : TypeId) (b : Nat) (hb : b = w.heap.size) : (w.alloc (.cells #[x, y] t)).drew.cell? ⟨b, 0, none⟩ = some x ∧ (w.alloc (.cells #[x, y] t)).drew.cell? ⟨b, 1, none⟩ = some y := by
 subst hb
 have h := heap_alloc_new w (.cells #[x, y] t)
 show (w.alloc (.cells #[x, y] t)).cell? ⟨w.heap.size, 0, none⟩ = some x ∧ (w.alloc (.cells #[x, y] t)).cell? ⟨w.heap.size, 1, none⟩ = some y
 unfold World.cell?
 simp only [h]
 exact ⟨rfl, rfl⟩
set_option maxRecDepth 100000 in
set_option maxHeartbeats 400000 in
theorem Kn.compare_c (a b : Kn.V) (w : World) : Calls Try.prog 25 #[a.val, b.val] w fun e w' => e = .returned (.int .i64 (Kn.cmp a b)) ∧ Below w.heap.size w w' := by
 obtain ⟨an, ai, sa⟩ := a
 obtain ⟨bn, bi, sb⟩ := b
 unfold Kn.V.val
 cases an <;> cases bn
 ·have h : Kn.cmp ⟨false, ai, sa⟩ ⟨false, bi, sb⟩ = Kn.or2 (Kn.ncmp ai bi) (Kn.scmp sa sb) := rfl
  rw [h]
  go_enter Try.func25, Try.ntmps25
  go_wp2_with fail
  refine wp_region_still_tail 10 (by kernel_rfl) (by kernel_rfl) ?_
  simp only [List.take_succ_cons, List.take_zero, List.drop_succ_cons, List.drop_zero]
  change wpStill _ _ (World.drew _) (fun a' => wpList _ _ _ _ a' (World.drew _)) _ _
  still_step
  still_step
  still_step
  still_step
  still_call (Kn.cmpi_c ai bi _)
  still_step
  still_step
  still_step
  still_step
  still_call (Kn.cmps_c sa sb _)
  refine wpStill_nil ?_
  go_wp2_with fail
  refine (Kn.or_c _ (Kn.ncmp ai bi) (Kn.scmp sa sb) _ (Kn.new2 _ _ _ _ _ (by simp)).1 (Kn.new2 _ _ _ _ _ (by simp)).2).mono ?_
  rintro e wc ⟨rfl, rfl⟩
  go_wp2
  go_ret
  exact ⟨rfl, ((((Below.refl _ w).alloc (Nat.le_refl _) _).alloc (by simp) _).alloc (by simp; omega) _).drew⟩
 all_goals
  go_enter Try.func25, Try.ntmps25
  go_wp2
  go_ret
  exact ⟨rfl, ((Below.refl _ w).alloc (Nat.le_refl _) _).alloc (by simp) _⟩
end Go.Proofs.Ytikdcmplihgdcaa
namespace Go.Proofs.Ytikdcmplihgdcaa
open Go.RowKit
theorem Kn.below_drewN {B : Nat} {w w' : World} (h : Below B w w') (n : Nat) : Below B w (w'.drewN n) := ⟨h.os, h.tape, h.output, h.size, h.block⟩
structure Kn.At (w : World) (b o : Nat) (v : Kn.V) : Prop where
 c0 : w.cell? ⟨b, o, none⟩ = some (.bool v.null)
 c1 : w.cell? ⟨b, o + 1, none⟩ = some (.int .i64 v.n)
 c2 : w.cell? ⟨b, o + 2, none⟩ = some (.string v.s)
theorem Kn.At.lt {w : World} {b o : Nat} {v : Kn.V} (h : Kn.At w b o v) : b < w.heap.size := World.block_lt_of_cell? w _ h.c0
theorem Kn.At.later {w w' : World} {b o : Nat} {v : Kn.V} (h : Kn.At w b o v) (g : Below w.heap.size w w') : Kn.At w' b o v :=
 ⟨(g.cell (p := ⟨b, o, none⟩) h.lt).trans h.c0, (g.cell (p := ⟨b, o + 1, none⟩) h.lt).trans h.c1, (g.cell (p := ⟨b, o + 2, none⟩) h.lt).trans h.c2⟩
theorem Kn.cell_new (w : World) (cs : Array Value) (t : TypeId) (i : Nat) (v : Value) (h : cs[i]? = some v) : (w.alloc (.cells cs t)).cell? ⟨w.heap.size, i, none⟩ = some v := by
 have e := heap_alloc_new w (.cells cs t)
 unfold World.cell?
 simp only [e]
 exact h
theorem Kn.At.new (w : World) (v : Kn.V) (t : TypeId) : Kn.At (w.alloc (.cells #[.bool v.null, .int .i64 v.n, .string v.s] t)) w.heap.size 0 v :=
 ⟨Kn.cell_new w _ t 0 _ rfl, Kn.cell_new w _ t 1 _ rfl, Kn.cell_new w _ t 2 _ rfl⟩
theorem Kn.At.alloc {w : World} {b o : Nat} {v : Kn.V} (h : Kn.At w b o v) (x : Obj) : Kn.At (w.alloc x) b o v := h.later ((Below.refl _ w).alloc (Nat.le_refl _) x)
def Kn.Z (a : Kn.V) : Prop := a.s.size ≤ 140737488351232
theorem Kn.len_toList (s : ByteArray) : s.toList.length = s.size := by
 rw [ByteArray.toList_eq]
 exact Array.length_toList
theorem Kn.at_toList (s : ByteArray) (k : Nat) (h : k < s.size) : s.toList.drop k = s[k] :: s.toList.drop (k + 1) := by
 have hl : k < s.toList.length := by rw [Kn.len_toList]; exact h
 rw [List.drop_eq_getElem_cons hl]
 congr 1
 rw [List.getElem_of_eq (ByteArray.toList_eq s)]
 rfl
theorem Kn.bl_step (x y : UInt8) (l m : List UInt8) : ((((x.toNat : Int) != (y.toNat : Int)) = true ∧ Op.bytesLess (x :: l) (y :: m) = decide (x.toNat < y.toNat)) ∨ (((x.toNat : Int) != (y.toNat : Int)) = false ∧ Op.bytesLess (x :: l) (y :: m) = Op.bytesLess l m)) := by
 by_cases h : x = y
 ·subst h
  right
  simp [Op.bytesLess]
 ·left
  have hn : x.toNat ≠ y.toNat := fun e => h (UInt8.toNat_inj.1 e)
  refine ⟨by rw [bne_iff_ne]; omega, ?_⟩
  simp [Op.bytesLess, h, UInt8.lt_iff_toNat_lt]
theorem Kn.bl_end (a b : ByteArray) (k : Nat) (ha : k ≤ a.size) (hb : k ≤ b.size) (h : ¬ k < a.size ∨ ¬ k < b.size) : Op.bytesLess (a.toList.drop k) (b.toList.drop k) = decide (a.size < b.size) := by
 by_cases h1 : k < b.size
 ·have e : a.toList.drop k = [] := List.drop_eq_nil_of_le (by rw [Kn.len_toList]; omega)
  rw [e, Kn.at_toList b k h1]
  rw [decide_eq_true (by omega)]
  rfl
 ·have e : b.toList.drop k = [] := List.drop_eq_nil_of_le (by rw [Kn.len_toList]; omega)
  rw [e, decide_eq_false (by omega)]
  cases List.drop k a.toList <;> rfl
set_option maxRecDepth 100000 in
set_option maxHeartbeats 1000000 in
theorem Kn.rahead_c (a b : ByteArray) (ha : a.size ≤ 140737488351232) (hb : b.size ≤ 140737488351232) (w : World) :
 Calls Try.prog 41 #[.string a, .string b] w fun e w' => e = .returned (.bool (Op.bytesLess a.toList b.toList)) ∧ ∃ n, w' = w.drewN n := by
 go_enter Try.func41, Try.ntmps41
 go_wp2
 go_loopw [5] (fun i wr => ∃ k : Nat, k ≤ a.size ∧ k ≤ b.size ∧ i = .int .i64 k ∧ Op.bytesLess a.toList b.toList = Op.bytesLess (a.toList.drop k) (b.toList.drop k) ∧ ∃ n, wr = w.drewN n) (fun i _ => a.size - (intOf i).toNat)
 case atStart => exact ⟨0, by omega, by omega, rfl, rfl, 0, rfl⟩
 case round =>
  obtain ⟨k, hka, hkb, rfl, hl, n, rfl⟩ := hrel
  by_cases h1 : k < a.size
  ·by_cases h2 : k < b.size
   ·have d1 : (k : Int) < (a.size : Int) := by omega
    have d2 : (k : Int) < (b.size : Int) := by omega
    have d0 : 0 ≤ (k : Int) := by omega
    rw [Kn.at_toList a k h1, Kn.at_toList b k h2] at hl
    have HL := Lib.hid hl
    clear hl
    rcases Kn.bl_step a[k] b[k] (a.toList.drop (k + 1)) (b.toList.drop (k + 1)) with ⟨h3, h4⟩ | ⟨h3, h4⟩
    ·have H4 := Lib.hid h4
     clear h4
     go_wp2_with fail
     go_quiet (fail)
     go_wp2_with fail
     go_quiet (fail)
     go_wp2
     go_ret
     exact ⟨congrArg (fun x => Ending.returned (.bool x)) (HL.out.trans H4.out).symm, _, by rw [World.drewN_drewN, World.drewN_drewN]⟩
    ·have H4 := Lib.hid h4
     clear h4
     go_wp2_with fail
     go_quiet (fail)
     go_wp2
     go_roundw
     case rel => exact ⟨k + 1, by omega, by omega, by simp, by rw [HL.out, H4.out], _, rfl⟩
     case measure => simp [intOf]; omega
   ·have d1 : (k : Int) < (a.size : Int) := by omega
    have d2 : ¬ (k : Int) < (b.size : Int) := by omega
    go_wp2
    go_ret
    exact ⟨congrArg (fun x => Ending.returned (.bool x)) (Kn.bl_end a b k hka hkb (.inr h2)).symm, _, rfl⟩
  ·have d1 : ¬ (k : Int) < (a.size : Int) := by omega
   go_wp2
   go_ret
   exact ⟨congrArg (fun x => Ending.returned (.bool x)) (Kn.bl_end a b k hka hkb (.inl h1)).symm, _, rfl⟩
theorem Kn.ahead_is (a b : Kn.V) : (decide (Kn.cmp a b < 0)) = (if a.null = true then !b.null else if b.null = true then false else if (a.n != b.n) = true then decide (a.n < b.n) else Op.bytesLess a.s.toList b.s.toList) := by
 unfold Kn.cmp
 cases a.null <;> cases b.null <;> simp only [Bool.false_eq_true, if_false, if_true]
 ·by_cases h : a.n = b.n
  ·rw [h]
   have e : Kn.ncmp b.n b.n = 0 := (Kn.ncmp_zero _ _).2 rfl
   rw [e]
   have e2 : (b.n != b.n) = false := by simp
   rw [e2, if_neg (by simp)]
   show decide (Kn.lcmp a.s.toList b.s.toList < 0) = _
   unfold Kn.lcmp
   cases Op.bytesLess a.s.toList b.s.toList
   ·cases Op.bytesLess b.s.toList a.s.toList <;> rfl
   ·rfl
  ·have e : Kn.ncmp a.n b.n ≠ 0 := fun e => h ((Kn.ncmp_zero _ _).1 e)
   have e2 : (a.n != b.n) = true := by rw [bne_iff_ne]; exact h
   rw [if_pos e2]
   unfold Kn.or2
   rw [if_neg e, Bool.eq_iff_iff, decide_eq_true_iff, decide_eq_true_iff]
   unfold Kn.ncmp
   repeat' split <;> omega
 all_goals rfl
set_option maxRecDepth 100000 in
set_option maxHeartbeats 1000000 in
theorem Kn.rAhead_c (a b : Kn.V) (ha : Kn.Z a) (hb : Kn.Z b) (w : World) :
 Calls Try.prog 31 #[a.val, b.val] w fun e w' => e = .returned (.bool (decide (Kn.cmp a b < 0))) ∧ Below w.heap.size w w' := by
 rw [Kn.ahead_is]
 obtain ⟨an, ai, sa⟩ := a
 obtain ⟨bn, bi, sb⟩ := b
 unfold Kn.V.val
 cases an <;> cases bn
 ·rcases Bool.eq_false_or_eq_true (ai != bi) with h | h
  ·show Calls _ _ _ _ fun e w' => e = .returned (.bool (if (ai != bi) = true then decide (ai < bi) else Op.bytesLess sa.toList sb.toList)) ∧ _
   rw [if_pos h]
   go_enter Try.func31, Try.ntmps31
   go_wp2
   go_ret
   exact ⟨rfl, ((Below.refl _ w).alloc (Nat.le_refl _) _).alloc (by simp) _⟩
  ·show Calls _ _ _ _ fun e w' => e = .returned (.bool (if (ai != bi) = true then decide (ai < bi) else Op.bytesLess sa.toList sb.toList)) ∧ _
   rw [if_neg (by rw [h]; simp)]
   go_enter Try.func31, Try.ntmps31
   go_wp2_with fail
   refine (Kn.rahead_c sa sb ha hb _).mono ?_
   rintro e w1 ⟨rfl, n, rfl⟩
   go_wp2
   go_ret
   exact ⟨rfl, Kn.below_drewN (((Below.refl _ w).alloc (Nat.le_refl _) _).alloc (by simp) _) n⟩
 all_goals
  go_enter Try.func31, Try.ntmps31
  go_wp2
  go_ret
  exact ⟨rfl, ((Below.refl _ w).alloc (Nat.le_refl _) _).alloc (by simp) _⟩
end Go.Proofs.Ytikdcmplihgdcaa
namespace Go.Proofs.Ytikdcmplihgdcaa
open Go.RowKit
structure Kn.C where
 k : Int
 null : Bool
abbrev Kn.C.val (c : Kn.C) : Value := .agg #[.int .i64 c.k, .bool c.null]
structure Kn.Cols (w : World) (v : Value) (l : List Kn.C) : Prop where
 is : ∃ a c, v = .slice a l.length c ∧ (l = [] ∨ ∃ b o, a = some ⟨b, o, none⟩ ∧ b < w.heap.size ∧ l.length ≤ 9223372036854775807 ∧
  ∀ i x, l[i]? = some x → w.cell? ⟨b, o + i * 2, none⟩ = some (.int .i64 x.k) ∧ w.cell? ⟨b, o + i * 2 + 1, none⟩ = some (.bool x.null))
structure Kn.Vals (w : World) (v : Value) (l : List Kn.V) : Prop where
 is : ∃ a c, v = .slice a l.length c ∧ (l = [] ∨ ∃ b o, a = some ⟨b, o, none⟩ ∧ b < w.heap.size ∧ l.length ≤ 9223372036854775807 ∧ ∀ i x, l[i]? = some x → Kn.At w b (o + i * 3) x)
theorem Kn.Cols.later {w w' : World} {v : Value} {l : List Kn.C} (h : Kn.Cols w v l) (g : Below w.heap.size w w') : Kn.Cols w' v l := by
 obtain ⟨a, c, rfl, h⟩ := h
 refine ⟨a, c, rfl, ?_⟩
 rcases h with h | ⟨b, o, rfl, hlt, hm, h⟩
 ·exact .inl h
 ·refine .inr ⟨b, o, rfl, Nat.lt_of_lt_of_le hlt g.size, hm, fun i x hx => ?_⟩
  exact ⟨(g.cell (p := ⟨b, o + i * 2, none⟩) hlt).trans (h i x hx).1, (g.cell (p := ⟨b, o + i * 2 + 1, none⟩) hlt).trans (h i x hx).2⟩
theorem Kn.Vals.later {w w' : World} {v : Value} {l : List Kn.V} (h : Kn.Vals w v l) (g : Below w.heap.size w w') : Kn.Vals w' v l := by
 obtain ⟨a, c, rfl, h⟩ := h
 refine ⟨a, c, rfl, ?_⟩
 rcases h with h | ⟨b, o, rfl, hlt, hm, h⟩
 ·exact .inl h
 ·exact .inr ⟨b, o, rfl, Nat.lt_of_lt_of_le hlt g.size, hm, fun i x hx => (h i x hx).later g⟩
def Kn.C.good (c : Kn.C) : Bool := !((c.k != 1) && (c.k != 2))
def Kn.headOk : List Kn.C → Bool
 | [] => true
 | c :: _ => !c.null
def Kn.right (l : List Kn.C) : Bool := decide (1 ≤ l.length) && decide (l.length ≤ 6) && Kn.headOk l && l.all Kn.C.good
def Kn.fits (c : Kn.C) (v : Kn.V) : Bool :=
 if v.null = true then c.null && (v.n == 0) && (v.s.toList == (⟨#[]⟩ : ByteArray).toList)
 else if c.k = 1 then v.s.toList == (⟨#[]⟩ : ByteArray).toList
 else (v.n == 0) && decide (v.s.size ≤ 64)
theorem Kn.retb {x y : Bool} (h : x = y) : Ending.returned (.bool x) = Ending.returned (.bool y) := by rw [h]
end Go.Proofs.Ytikdcmplihgdcaa
namespace Go.Proofs.Ytikdcmplihgdcaa
open Go.RowKit
def Kn.fitsAll : List Kn.C → List Kn.V → Bool
 | c :: cs, v :: vs => Kn.fits c v && Kn.fitsAll cs vs
 | _, _ => true
def Kn.fitsE (s : List Kn.C) (r : List Kn.V) : Int := if Kn.right s = true then (if r.length = s.length then (if Kn.fitsAll s r = true then 0 else 6) else 7) else 4
def Kn.keyE (s : List Kn.C) (k : Kn.V) : Int := if Kn.right s = true then (match s with | [] => 4 | c :: _ => if Kn.fits c k = true then 0 else 6) else 4
theorem Kn.right_len {s : List Kn.C} (h : Kn.right s = true) : 1 ≤ s.length ∧ s.length ≤ 6 := by
 unfold Kn.right at h
 simp only [Bool.and_eq_true, decide_eq_true_iff] at h
 omega
theorem Kn.right_head {s : List Kn.C} (h : Kn.right s = true) : ∃ x t, s = x :: t ∧ x.null = false ∧ x.good = true := by
 cases s with
 | nil => cases h
 | cons x t =>
   unfold Kn.right at h
   simp only [Bool.and_eq_true, Kn.headOk, List.all_cons, Bool.not_eq_true'] at h
   exact ⟨x, t, rfl, h.1.2, h.2.1⟩
end Go.Proofs.Ytikdcmplihgdcaa
namespace Go.Proofs.Ytikdcmplihgdcaa.Ty
def form (n : Nat) : Nat := if n < 64 then 0 else if n < 16384 then 1 else if n < 1073741824 then 2 else 3
def after : Nat → Nat
 | 0 => 0
 | 1 => 1
 | 2 => 3
 | _ => 8
def low : Nat → Nat → List UInt8
 | 0, _ => []
 | k + 1, n => UInt8.ofNat (n / 256 ^ k % 256) :: low k n
def head (n : Nat) : UInt8 := UInt8.ofNat (64 * form n + (if form n = 3 then 0 else n / 256 ^ after (form n)))
def encU (n : Nat) : List UInt8 := head n :: low (after (form n)) n
theorem form_le (n : Nat) : form n ≤ 3 := by unfold form; (repeat' split) <;> omega
theorem form_is (n : Nat) : (n < 64 ∧ form n = 0) ∨ (¬ n < 64 ∧ n < 16384 ∧ form n = 1) ∨ (¬ n < 16384 ∧ n < 1073741824 ∧ form n = 2) ∨ (¬ n < 1073741824 ∧ form n = 3) := by
 unfold form; (repeat' split) <;> omega
theorem low_length (k n : Nat) : (low k n).length = k := by induction k with
 | zero => rfl
 | succ k ih => simp [low, ih]
theorem toNat_ofNat8 (n : Nat) (h : n < 256) : (UInt8.ofNat n).toNat = n := by simp [UInt8.toNat_ofNat']; omega
def U64 (n : Nat) : Prop := n < 2 ^ 64
theorem low_byte (n k : Nat) : ((n : Int) / 2 ^ (8 * k) % 256) = ((UInt8.ofNat (n / 256 ^ k % 256)).toNat : Int) := by
 rw [toNat_ofNat8 _ (Nat.mod_lt _ (by omega))]
 have e : (2 : Int) ^ (8 * k) = ((256 ^ k : Nat) : Int) := by
  rw [Int.pow_mul, Int.natCast_pow]; rfl
 rw [e]
 simp
theorem low_succ (n k : Nat) : low (k + 1) n = UInt8.ofNat (n / 256 ^ k % 256) :: low k n := rfl
theorem encU_split (n : Nat) : encU n = [head n] ++ low (after (form n)) n := rfl
theorem encU_length (n : Nat) : (encU n).length = 1 + after (form n) := by simp [encU, low_length]; omega
theorem after_le (n : Nat) : after (form n) ≤ 8 := by
 rcases form_is n with ⟨_, h⟩ | ⟨_, _, h⟩ | ⟨_, _, h⟩ | ⟨_, h⟩ <;> rw [h] <;> decide
def zig (n : Int) : Int := if 0 ≤ n then 2 * n else -2 * n - 1
def zag (n : Int) : Int := if n % 2 = 1 then -(n / 2) - 1 else n / 2
def I64 (n : Int) : Prop := -9223372036854775808 ≤ n ∧ n ≤ 9223372036854775807
theorem zig_nonneg (n : Int) : 0 ≤ zig n := by unfold zig; split <;> omega
theorem zig_u64 {n : Int} (h : I64 n) : U64 (zig n).toNat := by unfold zig U64; unfold I64 at h; split <;> omega
theorem zag_i64 {n : Nat} (h : U64 n) : I64 (zag n) := by unfold zag I64; unfold U64 at h; split <;> omega
theorem zag_zig (n : Int) : zag (zig n) = n := by unfold zag zig; (repeat' split) <;> omega
theorem zig_zag {n : Int} (h : 0 ≤ n) : zig (zag n) = n := by unfold zag zig; (repeat' split) <;> omega
end Go.Proofs.Ytikdcmplihgdcaa.Ty
namespace Go.Proofs.Ytikdcmplihgdcaa.Ty
def pv (l : List UInt8) : Nat → Nat
 | 0 => 0
 | 1 => (l.getD 0 0).toNat % 64
 | k + 2 => pv l (k + 1) * 256 + (l.getD (k + 1) 0).toNat
def small : Nat → Nat
 | 0 => 0
 | 1 => 64
 | 2 => 16384
 | _ => 1073741824
def num (l : List UInt8) : Nat × Nat × Nat :=
 match l with
 | [] => (0, 0, 2)
 | b :: r => if 192 < b.toNat then (0, 0, 5) else if (b :: r).length < 1 + after (b.toNat / 64) then (0, 0, 2) else
   if pv (b :: r) (1 + after (b.toNat / 64)) < small (b.toNat / 64) then (0, 0, 5) else (pv (b :: r) (1 + after (b.toNat / 64)), 1 + after (b.toNat / 64), 0)
theorem pv_succ (l : List UInt8) (k : Nat) (hk : 1 ≤ k) : pv l (k + 1) = pv l k * 256 + (l.getD k 0).toNat := by
 match k, hk with
 | k + 1, _ => rfl
theorem pv_lt (l : List UInt8) : ∀ k, pv l (k + 1) < 64 * 256 ^ k
 | 0 => by simp [pv]; omega
 | k + 1 => by
   have := pv_lt l k
   have h2 := (l.getD (k + 1) 0).toNat_lt
   rw [pv_succ l (k + 1) (by omega), Nat.pow_succ]
   omega
theorem pv_lt9 (l : List UInt8) (h : (l.getD 0 0).toNat % 64 = 0) : ∀ k, pv l (k + 1) < 256 ^ k
 | 0 => by simp [pv]; simpa using h
 | k + 1 => by
   have := pv_lt9 l h k
   have h2 := (l.getD (k + 1) 0).toNat_lt
   rw [pv_succ l (k + 1) (by omega), Nat.pow_succ]
   omega
def txt (l : List UInt8) (most : Int) : List UInt8 × Nat × Nat :=
 if (num l).2.2 ≠ 0 then ([], 0, (num l).2.2) else if most < 0 ∨ most < ((num l).1 : Int) then ([], 0, 3) else
  if l.length - (num l).2.1 < (num l).1 then ([], 0, 2) else ((l.drop (num l).2.1).take (num l).1, (num l).2.1 + (num l).1, 0)
theorem num_is (l : List UInt8) (h : 0 < l.length) : num l = if 192 < (l.getD 0 0).toNat then (0, 0, 5) else if l.length < 1 + after ((l.getD 0 0).toNat / 64) then (0, 0, 2) else
 if pv l (1 + after ((l.getD 0 0).toNat / 64)) < small ((l.getD 0 0).toNat / 64) then (0, 0, 5) else (pv l (1 + after ((l.getD 0 0).toNat / 64)), 1 + after ((l.getD 0 0).toNat / 64), 0) := by
 cases l with
 | nil => simp at h
 | cons b r => rfl
theorem num_high {l : List UInt8} (h : 0 < l.length) (hb : 192 < (l.getD 0 0).toNat) : num l = (0, 0, 5) := by rw [num_is l h, if_pos hb]
theorem num_cut {l : List UInt8} (h : 0 < l.length) (hb : ¬ 192 < (l.getD 0 0).toNat) {f : Nat} (hf : (l.getD 0 0).toNat / 64 = f) (hl : l.length < 1 + after f) : num l = (0, 0, 2) := by rw [num_is l h, if_neg hb, hf, if_pos hl]
theorem num_less {l : List UInt8} (h : 0 < l.length) (hb : ¬ 192 < (l.getD 0 0).toNat) {f : Nat} (hf : (l.getD 0 0).toNat / 64 = f) (hl : ¬ l.length < 1 + after f) (hp : pv l (1 + after f) < small f) : num l = (0, 0, 5) := by rw [num_is l h, if_neg hb, hf, if_neg hl, if_pos hp]
theorem num_whole {l : List UInt8} (h : 0 < l.length) (hb : ¬ 192 < (l.getD 0 0).toNat) {f : Nat} (hf : (l.getD 0 0).toNat / 64 = f) (hl : ¬ l.length < 1 + after f) (hp : ¬ pv l (1 + after f) < small f) : num l = (pv l (1 + after f), 1 + after f, 0) := by rw [num_is l h, if_neg hb, hf, if_neg hl, if_neg hp]
theorem num_cases (l : List UInt8) : (num l).2.2 = 0 ∧ l ≠ [] ∧ (∃ f, f ≤ 3 ∧ 64 * f ≤ (l.getD 0 0).toNat ∧ (l.getD 0 0).toNat < 64 * f + 64 ∧ (l.getD 0 0).toNat ≤ 192 ∧ num l = (pv l (1 + after f), 1 + after f, 0) ∧ 1 + after f ≤ l.length ∧ small f ≤ pv l (1 + after f)) ∨
 ((num l).2.2 = 2 ∨ (num l).2.2 = 5) ∧ (num l).1 = 0 ∧ (num l).2.1 = 0 := by
 by_cases h0 : 0 < l.length
 ·by_cases h1 : 192 < (l.getD 0 0).toNat
  ·right; rw [num_high h0 h1]; simp
  ·obtain ⟨f, hf⟩ : ∃ f, (l.getD 0 0).toNat / 64 = f := ⟨_, rfl⟩
   by_cases h2 : l.length < 1 + after f
   ·right; rw [num_cut h0 h1 hf h2]; simp
   ·by_cases h3 : pv l (1 + after f) < small f
    ·right; rw [num_less h0 h1 hf h2 h3]; simp
    ·left
     have e := num_whole h0 h1 hf h2 h3
     exact ⟨by rw [e], by intro e; subst e; simp at h0, f, by omega, by omega, by omega, by omega, e, by omega, by omega⟩
 ·right
  have : l = [] := List.eq_nil_of_length_eq_zero (by omega)
  subst this
  simp [num]
theorem num_u64 (l : List UInt8) : U64 (num l).1 := by
 rcases num_cases l with ⟨_, _, f, hf, h1, h2, h3, e, _, _⟩ | ⟨_, h, _⟩
 ·rw [e]
  unfold U64
  rcases (by omega : f = 0 ∨ f = 1 ∨ f = 2 ∨ f = 3) with rfl | rfl | rfl | rfl
  ·have := pv_lt l 0; show pv l (0 + 1) < 2 ^ 64; omega
  ·have := pv_lt l 1; show pv l (1 + 1) < 2 ^ 64; omega
  ·have := pv_lt l 3; show pv l (3 + 1) < 2 ^ 64; omega
  ·have := pv_lt9 l (by omega) 8; show pv l (8 + 1) < 2 ^ 64; omega
 ·rw [h]; unfold U64; omega
theorem txt_bad {l : List UInt8} {most : Int} (h : (num l).2.2 ≠ 0) : txt l most = ([], 0, (num l).2.2) := by unfold txt; rw [if_pos h]
theorem txt_long {l : List UInt8} {most : Int} (h : (num l).2.2 = 0) (h2 : most < 0 ∨ most < ((num l).1 : Int)) : txt l most = ([], 0, 3) := by unfold txt; rw [if_neg (by omega), if_pos h2]
theorem txt_short {l : List UInt8} {most : Int} (h : (num l).2.2 = 0) (h2 : ¬ (most < 0 ∨ most < ((num l).1 : Int))) (h3 : l.length - (num l).2.1 < (num l).1) : txt l most = ([], 0, 2) := by unfold txt; rw [if_neg (by omega), if_neg h2, if_pos h3]
theorem txt_whole {l : List UInt8} {most : Int} (h : (num l).2.2 = 0) (h2 : ¬ (most < 0 ∨ most < ((num l).1 : Int))) (h3 : ¬ l.length - (num l).2.1 < (num l).1) : txt l most = ((l.drop (num l).2.1).take (num l).1, (num l).2.1 + (num l).1, 0) := by unfold txt; rw [if_neg (by omega), if_neg h2, if_neg h3]
end Go.Proofs.Ytikdcmplihgdcaa.Ty
namespace Go.Proofs.Ytikdcmplihgdcaa.Ty
theorem head_is (n : Nat) : (head n).toNat = 64 * form n + (if form n = 3 then 0 else n / 256 ^ after (form n)) ∧ (form n ≠ 3 → n / 256 ^ after (form n) < 64) := by
 rcases form_is n with ⟨h1, h⟩ | ⟨_, h1, h⟩ | ⟨_, h1, h⟩ | ⟨_, h⟩
 ·have e : n / 256 ^ 0 = n := by simp
  refine ⟨?_, fun _ => by rw [h]; show n / 256 ^ 0 < 64; omega⟩
  unfold head
  rw [h, toNat_ofNat8 _ (by rw [if_neg (by omega)]; show 64 * 0 + n / 256 ^ 0 < 256; omega)]
 ·have e : (256 : Nat) ^ 1 = 256 := by decide
  refine ⟨?_, fun _ => by rw [h]; show n / 256 ^ 1 < 64; omega⟩
  unfold head
  rw [h, toNat_ofNat8 _ (by rw [if_neg (by omega)]; show 64 * 1 + n / 256 ^ 1 < 256; omega)]
 ·have e : (256 : Nat) ^ 3 = 16777216 := by decide
  refine ⟨?_, fun _ => by rw [h]; show n / 256 ^ 3 < 64; omega⟩
  unfold head
  rw [h, toNat_ofNat8 _ (by rw [if_neg (by omega)]; show 64 * 2 + n / 256 ^ 3 < 256; omega)]
 ·refine ⟨?_, fun hh => absurd h hh⟩
  unfold head
  rw [h, toNat_ofNat8 _ (by rw [if_pos rfl]; omega)]
end Go.Proofs.Ytikdcmplihgdcaa.Ty
namespace Go.Proofs.Ytikdcmplihgdcaa.Ty
theorem low_at : ∀ (a n j : Nat), j < a → (low a n).getD j 0 = UInt8.ofNat (n / 256 ^ (a - 1 - j) % 256)
 | 0, _, _, h => by omega
 | a + 1, n, 0, _ => by rw [low_succ]; simp
 | a + 1, n, j + 1, h => by
   rw [low_succ, List.getD_cons_succ, low_at a n j (by omega), show a + 1 - 1 - (j + 1) = a - 1 - j by omega]
theorem head_mod (n : Nat) (hn : U64 n) : (head n).toNat % 64 = n / 256 ^ after (form n) ∧ (head n).toNat / 64 = form n ∧ (head n).toNat ≤ 192 := by
 obtain ⟨h1, h2⟩ := head_is n
 have := form_le n
 by_cases h3 : form n = 3
 ·have e8 : (256 : Nat) ^ 8 = 18446744073709551616 := by decide
  have ed : n / 256 ^ 8 = 0 := by unfold U64 at hn; omega
  rw [if_pos h3] at h1
  rw [h1, h3]
  refine ⟨?_, by omega, by omega⟩
  show 192 % 64 = n / 256 ^ 8
  omega
 ·rw [if_neg h3] at h1
  have hq := h2 h3
  rw [h1]
  generalize n / 256 ^ after (form n) = q at hq ⊢
  exact ⟨by omega, by omega, by omega⟩
theorem at_zero (n : Nat) (r : List UInt8) : (encU n ++ r).getD 0 0 = head n := rfl
theorem at_succ (n : Nat) (r : List UInt8) (j : Nat) (h : j < after (form n)) : (encU n ++ r).getD (j + 1) 0 = UInt8.ofNat (n / 256 ^ (after (form n) - 1 - j) % 256) := by
 rw [encU_split, List.append_assoc, List.singleton_append, List.getD_cons_succ, ← low_at _ n j h]
 rw [List.getD, List.getD, List.getElem?_append_left (by rw [low_length]; exact h)]
theorem pv_encU (n : Nat) (hn : U64 n) (r : List UInt8) : ∀ j, j ≤ after (form n) → pv (encU n ++ r) (j + 1) = n / 256 ^ (after (form n) - j)
 | 0, _ => by
   show ((encU n ++ r).getD 0 0).toNat % 64 = _
   rw [at_zero, (head_mod n hn).1, Nat.sub_zero]
 | j + 1, h => by
   rw [pv_succ _ (j + 1) (by omega), pv_encU n hn r j (by omega), at_succ n r j (by omega), toNat_ofNat8 _ (Nat.mod_lt _ (by omega))]
   have e : after (form n) - j = after (form n) - 1 - j + 1 := by omega
   rw [e, Nat.pow_succ, ← Nat.div_div_eq_div_mul, show after (form n) - (j + 1) = after (form n) - 1 - j by omega]
   omega
theorem small_le (n : Nat) : small (form n) ≤ n := by
 rcases form_is n with ⟨_, h⟩ | ⟨_, _, h⟩ | ⟨_, _, h⟩ | ⟨_, h⟩ <;> rw [h] <;> simp only [small] <;> omega
theorem num_encU (n : Nat) (hn : U64 n) (r : List UInt8) : num (encU n ++ r) = (n, (encU n).length, 0) := by
 obtain ⟨_, h2, h3⟩ := head_mod n hn
 have hp := pv_encU n hn r (after (form n)) (Nat.le_refl _)
 rw [Nat.sub_self, Nat.pow_zero, Nat.div_one] at hp
 have hl : (encU n ++ r).length = 1 + after (form n) + r.length := by rw [List.length_append, encU_length]
 have e : 1 + after (form n) = after (form n) + 1 := by omega
 rw [num_whole (f := form n) (by omega) (by rw [at_zero]; omega) (by rw [at_zero]; exact h2) (by omega) (by rw [e, hp]; have := small_le n; omega), e, hp, encU_length, e]
theorem pv_div (l : List UInt8) : ∀ (d j : Nat), pv l (j + d + 1) / 256 ^ d = pv l (j + 1)
 | 0, j => by simp
 | d + 1, j => by
   have ih := pv_div l d j
   have hb := (l.getD (j + d + 1) 0).toNat_lt
   rw [show j + (d + 1) + 1 = j + d + 1 + 1 by omega, pv_succ l (j + d + 1) (by omega), Nat.pow_succ, Nat.mul_comm (256 ^ d) 256, ← Nat.div_div_eq_div_mul, ← ih]
   congr 1
   omega
theorem pv_form (l : List UInt8) (f : Nat) (hf : f ≤ 3) (h3 : f = 3 → (l.getD 0 0).toNat % 64 = 0) (hs : small f ≤ pv l (1 + after f)) : form (pv l (1 + after f)) = f := by
 rcases (by omega : f = 0 ∨ f = 1 ∨ f = 2 ∨ f = 3) with rfl | rfl | rfl | rfl
 ·have h1 := pv_lt l 0
  have hs' : 0 ≤ pv l (0 + 1) := by omega
  show form (pv l (0 + 1)) = 0
  unfold form; rw [if_pos (by omega)]
 ·have h1 := pv_lt l 1
  have hs' : 64 ≤ pv l (1 + 1) := hs
  show form (pv l (1 + 1)) = 1
  unfold form; rw [if_neg (by omega), if_pos (by omega)]
 ·have h1 := pv_lt l 3
  have hs' : 16384 ≤ pv l (3 + 1) := hs
  show form (pv l (3 + 1)) = 2
  unfold form; rw [if_neg (by omega), if_neg (by omega), if_pos (by omega)]
 ·have hs' : 1073741824 ≤ pv l (8 + 1) := hs
  show form (pv l (8 + 1)) = 3
  unfold form; rw [if_neg (by omega), if_neg (by omega), if_neg (by omega)]
theorem low_pv (l : List UInt8) : ∀ (a m : Nat), m + a + 1 ≤ l.length → low a (pv l (m + a + 1)) = (l.drop (m + 1)).take a
 | 0, m, _ => by simp [low]
 | a + 1, m, h => by
   rw [low_succ, show m + (a + 1) + 1 = (m + 1) + a + 1 by omega, low_pv l a (m + 1) (by omega), pv_div l a (m + 1), pv_succ l (m + 1) (by omega)]
   have hb := (l.getD (m + 1) 0).toNat_lt
   have hl : m + 1 < l.length := by omega
   rw [List.drop_eq_getElem_cons hl, List.take_succ_cons]
   congr 1
   have e : l.getD (m + 1) 0 = l[m + 1] := by rw [List.getD, List.getElem?_eq_getElem hl]; rfl
   rw [e] at hb ⊢
   rw [show (pv l (m + 1) * 256 + l[m + 1].toNat) % 256 = l[m + 1].toNat by omega]
   simp
theorem encU_num (l : List UInt8) (h : (num l).2.2 = 0) : encU (num l).1 = l.take (num l).2.1 ∧ (num l).2.1 ≤ l.length := by
 rcases num_cases l with ⟨_, hne, f, hf, h1, h2, h3, e, hl, hs⟩ | ⟨h', _⟩
 ·rw [e]
  refine ⟨?_, hl⟩
  have h30 : f = 3 → (l.getD 0 0).toNat % 64 = 0 := by intro h; subst h; omega
  have hfm := pv_form l f hf h30 hs
  show encU (pv l (1 + after f)) = l.take (1 + after f)
  unfold encU
  rw [hfm]
  have hp := low_pv l (after f) 0 (by omega)
  rw [show 0 + after f + 1 = 1 + after f by omega, Nat.zero_add] at hp
  rw [hp]
  obtain ⟨b, r, rfl⟩ : ∃ b r, l = b :: r := by cases l with
   | nil => exact absurd rfl hne
   | cons b r => exact ⟨b, r, rfl⟩
  rw [show 1 + after f = after f + 1 by omega, List.take_succ_cons, List.drop_one, List.tail_cons]
  congr 1
  apply UInt8.toNat_inj.1
  rw [(head_is _).1, show after f + 1 = 1 + after f by omega, hfm]
  have hd := pv_div (b :: r) (after f) 0
  rw [show 0 + after f + 1 = 1 + after f by omega] at hd
  have hb1 : pv (b :: r) (0 + 1) = b.toNat % 64 := rfl
  simp only [List.getD_cons_zero] at h1 h2 h3
  split
  ·rename_i h
   subst h
   omega
  ·rw [hd, hb1]
   omega
 ·omega
end Go.Proofs.Ytikdcmplihgdcaa.Ty
