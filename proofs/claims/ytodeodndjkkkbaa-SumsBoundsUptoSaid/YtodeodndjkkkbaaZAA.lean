import Derived.Test.YtodeodndjkkkbaaRows
import GoSem.Op.String
import Derived.WalkKit
import Derived.WalkSpells
import Derived.WalkLawsBesides
import Derived.Laws.StructEq
import Derived.Lib.QuietBelow
import Derived.Deep.RegionWith
import Derived.Deep.DeepCutAuto
import Derived.BigQuiet
import Derived.StillTailTactics
import Derived.Lib.Hide
import Derived.Deep.QuietTactic
import Derived.IntWalk
namespace Go.Proofs.Ytodeodndjkkkbaa.Kn
open Go
theorem bl_irrefl : ∀ l : List UInt8, Op.bytesLess l l = false
 | [] => rfl
 | a :: l => by simp [Op.bytesLess, bl_irrefl l]
theorem bl_total : ∀ a b : List UInt8, Op.bytesLess a b = true ∨ a = b ∨ Op.bytesLess b a = true
 | [], [] => .inr (.inl rfl)
 | [], _ :: _ => .inl rfl
 | _ :: _, [] => .inr (.inr rfl)
 | a :: x, b :: y => by
   rcases Nat.lt_trichotomy a.toNat b.toNat with h | h | h
   ·left; simp [Op.bytesLess, UInt8.lt_iff_toNat_lt, h]
   ·have e : a = b := UInt8.toNat_inj.1 h
    subst e
    rcases bl_total x y with g | g | g
    ·left; simp [Op.bytesLess, g]
    ·right; left; rw [g]
    ·right; right; simp [Op.bytesLess, g]
   ·right; right; simp [Op.bytesLess, UInt8.lt_iff_toNat_lt, h]
theorem bl_trans : ∀ a b c : List UInt8, Op.bytesLess a b = true → Op.bytesLess b c = true → Op.bytesLess a c = true
 | _, [], _, h, _ => by simp [Op.bytesLess] at h
 | _, _ :: _, [], _, h => by simp [Op.bytesLess] at h
 | [], _ :: _, _ :: _, _, _ => rfl
 | a :: x, b :: y, c :: z, h, k => by
   simp only [Op.bytesLess, Bool.or_eq_true, decide_eq_true_eq, Bool.and_eq_true, beq_iff_eq, UInt8.lt_iff_toNat_lt] at h k ⊢
   rcases h with h | ⟨rfl, h⟩ <;> rcases k with k | ⟨rfl, k⟩
   ·left; omega
   ·left; exact h
   ·left; exact k
   ·right; exact ⟨rfl, bl_trans x y z h k⟩
theorem bl_asymm (a b : List UInt8) (h : Op.bytesLess a b = true) : Op.bytesLess b a = false := by
 cases hb : Op.bytesLess b a with
 | false => rfl
 | true => have := bl_trans a b a h hb; rw [bl_irrefl] at this; cases this
structure V where
 null : Bool
 n : Int
 s : ByteArray
abbrev V.val (v : V) : Value := .agg #[.bool v.null, .int .i64 v.n, .string v.s]
def ncmp (a b : Int) : Int := if a < b then -1 else if b < a then 1 else 0
def lcmp (a b : List UInt8) : Int := if Op.bytesLess a b = true then -1 else if Op.bytesLess b a = true then 1 else 0
def scmp (a b : ByteArray) : Int := lcmp a.toList b.toList
def or2 (x y : Int) : Int := if x = 0 then y else x
def cmp (a b : V) : Int := if a.null = true then (if b.null = true then 0 else -1) else if b.null = true then 1 else or2 (ncmp a.n b.n) (scmp a.s b.s)
structure Fair (x y z x' y' z' : Int) : Prop where
 xr : -1 ≤ x ∧ x ≤ 1
 yr : -1 ≤ y ∧ y ≤ 1
 zr : -1 ≤ z ∧ z ≤ 1
 xa : x' = -x
 ya : y' = -y
 za : z' = -z
 le : x ≤ 0 → y ≤ 0 → z ≤ 0
 lt : x ≤ 0 → y ≤ 0 → z = 0 → x = 0 ∧ y = 0
 ge : x ≥ 0 → y ≥ 0 → z ≥ 0
 gt : x ≥ 0 → y ≥ 0 → z = 0 → x = 0 ∧ y = 0
theorem ncmp_fair (a b c : Int) : Fair (ncmp a b) (ncmp b c) (ncmp a c) (ncmp b a) (ncmp c b) (ncmp c a) := by
 unfold ncmp
 constructor <;> (repeat' split) <;> omega
theorem bl_ne {a b : List UInt8} (h : Op.bytesLess a b = true) : Op.bytesLess b a = false ∧ a ≠ b := ⟨bl_asymm a b h, fun e => by rw [e, bl_irrefl] at h; cases h⟩
theorem lcmp_lt {a b : List UInt8} (h : Op.bytesLess a b = true) : lcmp a b = -1 ∧ lcmp b a = 1 := by simp [lcmp, h, bl_asymm a b h]
theorem lcmp_self (a : List UInt8) : lcmp a a = 0 := by simp [lcmp, bl_irrefl]
theorem lcmp_anti (a b : List UInt8) : lcmp b a = -lcmp a b ∧ -1 ≤ lcmp a b ∧ lcmp a b ≤ 1 := by
 rcases bl_total a b with h | rfl | h
 ·rw [(lcmp_lt h).1, (lcmp_lt h).2]; omega
 ·rw [lcmp_self]; omega
 ·rw [(lcmp_lt h).1, (lcmp_lt h).2]; omega
theorem lcmp_chain (a b c : List UInt8) (h1 : lcmp a b ≤ 0) (h2 : lcmp b c ≤ 0) : lcmp a c ≤ 0 ∧ (lcmp a c = 0 → lcmp a b = 0 ∧ lcmp b c = 0) := by
 rcases bl_total a b with h | rfl | h
 ·rcases bl_total b c with k | rfl | k
  ·have := (lcmp_lt (bl_trans a b c h k)).1
   omega
  ·rw [lcmp_self]; omega
  ·have := (lcmp_lt k).2; omega
 ·rw [lcmp_self]; omega
 ·have := (lcmp_lt h).2; omega
theorem lcmp_fair (a b c : List UInt8) : Fair (lcmp a b) (lcmp b c) (lcmp a c) (lcmp b a) (lcmp c b) (lcmp c a) := by
 have h1 := lcmp_anti a b
 have h2 := lcmp_anti b c
 have h3 := lcmp_anti a c
 have h4 := lcmp_chain a b c
 have h5 := lcmp_chain c b a
 constructor <;> omega
theorem lex_fair {x y z x' y' z' p q r p' q' r' : Int} (h : Fair x y z x' y' z') (k : Fair p q r p' q' r') : Fair (or2 x p) (or2 y q) (or2 z r) (or2 x' p') (or2 y' q') (or2 z' r') := by
 obtain ⟨⟨h1, h2⟩, ⟨h3, h4⟩, ⟨h5, h6⟩, rfl, rfl, rfl, h10, h11, h12, h13⟩ := h
 obtain ⟨⟨k1, k2⟩, ⟨k3, k4⟩, ⟨k5, k6⟩, rfl, rfl, rfl, k10, k11, k12, k13⟩ := k
 unfold or2
 constructor <;> (repeat' split) <;> omega
theorem cmp_fair (a b c : V) : Fair (cmp a b) (cmp b c) (cmp a c) (cmp b a) (cmp c b) (cmp c a) := by
 have h := lex_fair (ncmp_fair a.n b.n c.n) (show Fair (scmp a.s b.s) (scmp b.s c.s) (scmp a.s c.s) (scmp b.s a.s) (scmp c.s b.s) (scmp c.s a.s) from lcmp_fair a.s.toList b.s.toList c.s.toList)
 unfold cmp
 cases a.null <;> cases b.null <;> cases c.null <;> simp only [Bool.false_eq_true, if_false, if_true]
 ·exact h
 all_goals
  obtain ⟨⟨h1, h2⟩, ⟨h3, h4⟩, ⟨h5, h6⟩, h7, h8, h9, h10, h11, h12, h13⟩ := h
  constructor <;> omega
theorem lcmp_zero (a b : List UInt8) : lcmp a b = 0 ↔ a = b := by
 rcases bl_total a b with h | rfl | h
 ·rw [(lcmp_lt h).1]; exact ⟨fun e => by omega, fun e => absurd e (bl_ne h).2⟩
 ·simp [lcmp_self]
 ·rw [(lcmp_lt h).2]; exact ⟨fun e => by omega, fun e => absurd e.symm (bl_ne h).2⟩
theorem ncmp_zero (a b : Int) : ncmp a b = 0 ↔ a = b := by unfold ncmp; repeat' split <;> omega
theorem or2_zero (x y : Int) : or2 x y = 0 ↔ x = 0 ∧ y = 0 := by unfold or2; split <;> omega
def same (a b : V) : Bool := (a.null && b.null) || ((!a.null && !b.null) && a.n == b.n && a.s.toList == b.s.toList)
theorem cmp_zero (a b : V) : (cmp a b == 0) = same a b := by
 rw [Bool.eq_iff_iff, beq_iff_eq]
 unfold cmp same
 cases a.null <;> cases b.null <;> simp [or2_zero, ncmp_zero, scmp, lcmp_zero]
end Go.Proofs.Ytodeodndjkkkbaa.Kn
namespace Go.Proofs.Ytodeodndjkkkbaa
open Go.RowKit
set_option maxRecDepth 100000 in
theorem Kn.isNaNi_c (a : Int) (w : World) : Calls Try.prog 88 #[.int .i64 a] w fun e w' => e = .returned (.bool false) ∧ w' = w := by
 go_enter Try.func88, Try.ntmps88
 go_wp2
 go_ret
 exact ⟨rfl, rfl⟩
set_option maxRecDepth 100000 in
theorem Kn.isNaNs_c (a : ByteArray) (w : World) : Calls Try.prog 89 #[.string a] w fun e w' => e = .returned (.bool false) ∧ w' = w := by
 go_enter Try.func89, Try.ntmps89
 go_wp2
 go_ret
 exact ⟨rfl, rfl⟩
set_option maxRecDepth 100000 in
theorem Kn.cmpi_c (a b : Int) (w : World) : Calls Try.prog 74 #[.int .i64 a, .int .i64 b] w fun e w' => e = .returned (.int .i64 (Kn.ncmp a b)) ∧ w' = w := by
 have hc : (a < b ∧ Kn.ncmp a b = -1) ∨ (¬ a < b ∧ b < a ∧ Kn.ncmp a b = 1) ∨ (¬ a < b ∧ ¬ b < a ∧ Kn.ncmp a b = 0) := by unfold Kn.ncmp; repeat' split <;> omega
 rcases hc with ⟨h1, h⟩ | ⟨h1, h2, h⟩ | ⟨h1, h2, h⟩
 all_goals
  rw [h]
  go_enter Try.func74, Try.ntmps74
  go_wp2_with fail
  refine (Kn.isNaNi_c _ _).mono ?_
  rintro e w1 ⟨rfl, rfl⟩
  go_wp2_with fail
  refine (Kn.isNaNi_c _ _).mono ?_
  rintro e w1 ⟨rfl, rfl⟩
  go_wp2
  go_ret
  exact ⟨rfl, rfl⟩
set_option maxRecDepth 100000 in
theorem Kn.cmps_c (a b : ByteArray) (w : World) : Calls Try.prog 75 #[.string a, .string b] w fun e w' => e = .returned (.int .i64 (Kn.scmp a b)) ∧ w' = w := by
 have hc : (Op.bytesLess a.toList b.toList = true ∧ Kn.scmp a b = -1) ∨ (Op.bytesLess a.toList b.toList = false ∧ (a.toList == b.toList) = false ∧ Kn.scmp a b = 1) ∨ (Op.bytesLess a.toList b.toList = false ∧ (a.toList == b.toList) = true ∧ Kn.scmp a b = 0) := by
  unfold Kn.scmp Kn.lcmp
  rcases Kn.bl_total a.toList b.toList with h | h | h
  ·left; rw [h]; exact ⟨rfl, rfl⟩
  ·right; right; rw [h, Kn.bl_irrefl]; exact ⟨rfl, by simp, rfl⟩
  ·right; left; rw [h, (Kn.bl_ne h).1]; exact ⟨rfl, by rw [beq_eq_false_iff_ne]; exact fun e => (Kn.bl_ne h).2 e.symm, rfl⟩
 rcases hc with ⟨h1, h⟩ | ⟨h1, h2, h⟩ | ⟨h1, h2, h⟩
 all_goals
  rw [h]
  go_enter Try.func75, Try.ntmps75
  go_wp2_with fail
  refine (Kn.isNaNs_c _ _).mono ?_
  rintro e w1 ⟨rfl, rfl⟩
  go_wp2_with fail
  refine (Kn.isNaNs_c _ _).mono ?_
  rintro e w1 ⟨rfl, rfl⟩
  go_wp2
  go_ret
  exact ⟨rfl, rfl⟩
set_option maxRecDepth 100000 in
theorem Kn.or_c (b : Nat) (x y : Int) (w : World) (h0 : w.cell? ⟨b, 0, none⟩ = some (.int .i64 x)) (h1 : w.cell? ⟨b, 1, none⟩ = some (.int .i64 y)) :
 Calls Try.prog 54 #[.slice (some ⟨b, 0, none⟩) 2 2] w fun e w' => e = .returned (.int .i64 (Kn.or2 x y)) ∧ w' = w := by
 have hc : ((x != 0) = true ∧ Kn.or2 x y = x) ∨ ((x != 0) = false ∧ (y != 0) = true ∧ Kn.or2 x y = y) ∨ ((x != 0) = false ∧ (y != 0) = false ∧ Kn.or2 x y = 0) := by
  unfold Kn.or2
  by_cases hx : x = 0 <;> by_cases hy : y = 0 <;> simp [hx, hy]
 rcases hc with ⟨h2, h⟩ | ⟨h2, h3, h⟩ | ⟨h2, h3, h⟩
 ·rw [h]
  go_enter Try.func54, Try.ntmps54
  go_wp2_with fail
  refine wp_loop_rounds 3 ?_; rw [rounds_succ]
  go_wp2
  go_ret
  exact ⟨rfl, rfl⟩
 ·rw [h]
  go_enter Try.func54, Try.ntmps54
  go_wp2_with fail
  refine wp_loop_rounds 3 ?_; rw [rounds_succ]
  go_wp2
  rw [rounds_succ]
  go_wp2
  go_ret
  exact ⟨rfl, rfl⟩
 ·rw [h]
  go_enter Try.func54, Try.ntmps54
  go_wp2_with fail
  refine wp_loop_rounds 3 ?_; rw [rounds_succ]
  go_wp2
  rw [rounds_succ]
  go_wp2
  rw [rounds_succ]
  go_wp2
  go_ret
  exact ⟨rfl, rfl⟩
set_option maxRecDepth 100000 in
theorem Kn.new2 (w : World) (x y : Value) (t : TypeId) (b : Nat) (hb : b = w.heap.size) : (w.alloc (.cells #[x, y] t)).drew.cell? ⟨b, 0, none⟩ = some x ∧ (w.alloc (.cells #[x, y] t)).drew.cell? ⟨b, 1, none⟩ = some y := by
 subst hb
 have h := heap_alloc_new w (.cells #[x, y] t)
 show (w.alloc (.cells #[x, y] t)).cell? ⟨w.heap.size, 0, none⟩ = some x ∧ (w.alloc (.cells #[x, y] t)).cell? ⟨w.heap.size, 1, none⟩ = some y
 unfold World.cell?
 simp only [h]
 exact ⟨rfl, rfl⟩
set_option maxRecDepth 100000 in
set_option maxHeartbeats 400000 in
theorem Kn.compare_c (a b : Kn.V) (w : World) : Calls Try.prog 56 #[a.val, b.val] w fun e w' => e = .returned (.int .i64 (Kn.cmp a b)) ∧ Below w.heap.size w w' := by
 obtain ⟨an, ai, sa⟩ := a
 obtain ⟨bn, bi, sb⟩ := b
 unfold Kn.V.val
 cases an <;> cases bn
 ·have h : Kn.cmp ⟨false, ai, sa⟩ ⟨false, bi, sb⟩ = Kn.or2 (Kn.ncmp ai bi) (Kn.scmp sa sb) := rfl
  rw [h]
  go_enter Try.func56, Try.ntmps56
  go_wp2_with fail
  refine wp_region_still_tail 10 (by kernel_rfl) (by kernel_rfl) ?_
  simp only [List.take_succ_cons, List.take_zero, List.drop_succ_cons, List.drop_zero]
  change wpStill _ _ (World.drew _) (fun a' => wpList _ _ _ _ a' (World.drew _)) _ _
  still_step
  still_step
  still_step
  still_step
  still_call (Kn.cmpi_c ai bi _)
  still_step
  still_step
  still_step
  still_step
  still_call (Kn.cmps_c sa sb _)
  refine wpStill_nil ?_
  go_wp2_with fail
  refine (Kn.or_c _ (Kn.ncmp ai bi) (Kn.scmp sa sb) _ (Kn.new2 _ _ _ _ _ (by simp)).1 (Kn.new2 _ _ _ _ _ (by simp)).2).mono ?_
  rintro e wc ⟨rfl, rfl⟩
  go_wp2
  go_ret
  exact ⟨rfl, ((((Below.refl _ w).alloc (Nat.le_refl _) _).alloc (by simp) _).alloc (by simp; omega) _).drew⟩
 all_goals
  go_enter Try.func56, Try.ntmps56
  go_wp2
  go_ret
  exact ⟨rfl, ((Below.refl _ w).alloc (Nat.le_refl _) _).alloc (by simp) _⟩
end Go.Proofs.Ytodeodndjkkkbaa
namespace Go.Proofs.Ytodeodndjkkkbaa
open Go.RowKit
theorem Kn.below_drewN {B : Nat} {w w' : World} (h : Below B w w') (n : Nat) : Below B w (w'.drewN n) := ⟨h.os, h.tape, h.output, h.size, h.block⟩
structure Kn.At (w : World) (b o : Nat) (v : Kn.V) : Prop where
 c0 : w.cell? ⟨b, o, none⟩ = some (.bool v.null)
 c1 : w.cell? ⟨b, o + 1, none⟩ = some (.int .i64 v.n)
 c2 : w.cell? ⟨b, o + 2, none⟩ = some (.string v.s)
theorem Kn.At.lt {w : World} {b o : Nat} {v : Kn.V} (h : Kn.At w b o v) : b < w.heap.size := World.block_lt_of_cell? w _ h.c0
theorem Kn.At.later {w w' : World} {b o : Nat} {v : Kn.V} (h : Kn.At w b o v) (g : Below w.heap.size w w') : Kn.At w' b o v :=
 ⟨(g.cell (p := ⟨b, o, none⟩) h.lt).trans h.c0, (g.cell (p := ⟨b, o + 1, none⟩) h.lt).trans h.c1, (g.cell (p := ⟨b, o + 2, none⟩) h.lt).trans h.c2⟩
theorem Kn.cell_new (w : World) (cs : Array Value) (t : TypeId) (i : Nat) (v : Value) (h : cs[i]? = some v) : (w.alloc (.cells cs t)).cell? ⟨w.heap.size, i, none⟩ = some v := by
 have e := heap_alloc_new w (.cells cs t)
 unfold World.cell?
 simp only [e]
 exact h
theorem Kn.At.new (w : World) (v : Kn.V) (t : TypeId) : Kn.At (w.alloc (.cells #[.bool v.null, .int .i64 v.n, .string v.s] t)) w.heap.size 0 v :=
 ⟨Kn.cell_new w _ t 0 _ rfl, Kn.cell_new w _ t 1 _ rfl, Kn.cell_new w _ t 2 _ rfl⟩
theorem Kn.At.alloc {w : World} {b o : Nat} {v : Kn.V} (h : Kn.At w b o v) (x : Obj) : Kn.At (w.alloc x) b o v := h.later ((Below.refl _ w).alloc (Nat.le_refl _) x)
def Kn.Z (a : Kn.V) : Prop := a.s.size ≤ 140737488351232
theorem Kn.len_toList (s : ByteArray) : s.toList.length = s.size := by
 rw [ByteArray.toList_eq]
 exact Array.length_toList
theorem Kn.at_toList (s : ByteArray) (k : Nat) (h : k < s.size) : s.toList.drop k = s[k] :: s.toList.drop (k + 1) := by
 have hl : k < s.toList.length := by rw [Kn.len_toList]; exact h
 rw [List.drop_eq_getElem_cons hl]
 congr 1
 rw [List.getElem_of_eq (ByteArray.toList_eq s)]
 rfl
theorem Kn.bl_step (x y : UInt8) (l m : List UInt8) : ((((x.toNat : Int) != (y.toNat : Int)) = true ∧ Op.bytesLess (x :: l) (y :: m) = decide (x.toNat < y.toNat)) ∨ (((x.toNat : Int) != (y.toNat : Int)) = false ∧ Op.bytesLess (x :: l) (y :: m) = Op.bytesLess l m)) := by
 by_cases h : x = y
 ·subst h
  right
  simp [Op.bytesLess]
 ·left
  have hn : x.toNat ≠ y.toNat := fun e => h (UInt8.toNat_inj.1 e)
  refine ⟨by rw [bne_iff_ne]; omega, ?_⟩
  simp [Op.bytesLess, h, UInt8.lt_iff_toNat_lt]
theorem Kn.bl_end (a b : ByteArray) (k : Nat) (ha : k ≤ a.size) (hb : k ≤ b.size) (h : ¬ k < a.size ∨ ¬ k < b.size) : Op.bytesLess (a.toList.drop k) (b.toList.drop k) = decide (a.size < b.size) := by
 by_cases h1 : k < b.size
 ·have e : a.toList.drop k = [] := List.drop_eq_nil_of_le (by rw [Kn.len_toList]; omega)
  rw [e, Kn.at_toList b k h1]
  rw [decide_eq_true (by omega)]
  rfl
 ·have e : b.toList.drop k = [] := List.drop_eq_nil_of_le (by rw [Kn.len_toList]; omega)
  rw [e, decide_eq_false (by omega)]
  cases List.drop k a.toList <;> rfl
set_option maxRecDepth 100000 in
set_option maxHeartbeats 1000000 in
theorem Kn.rahead_c (a b : ByteArray) (ha : a.size ≤ 140737488351232) (hb : b.size ≤ 140737488351232) (w : World) :
 Calls Try.prog 62 #[.string a, .string b] w fun e w' => e = .returned (.bool (Op.bytesLess a.toList b.toList)) ∧ ∃ n, w' = w.drewN n := by
 go_enter Try.func62, Try.ntmps62
 go_wp2
 go_loopw [5] (fun i wr => ∃ k : Nat, k ≤ a.size ∧ k ≤ b.size ∧ i = .int .i64 k ∧ Op.bytesLess a.toList b.toList = Op.bytesLess (a.toList.drop k) (b.toList.drop k) ∧ ∃ n, wr = w.drewN n) (fun i _ => a.size - (intOf i).toNat)
 case atStart => exact ⟨0, by omega, by omega, rfl, rfl, 0, rfl⟩
 case round =>
  obtain ⟨k, hka, hkb, rfl, hl, n, rfl⟩ := hrel
  by_cases h1 : k < a.size
  ·by_cases h2 : k < b.size
   ·have d1 : (k : Int) < (a.size : Int) := by omega
    have d2 : (k : Int) < (b.size : Int) := by omega
    have d0 : 0 ≤ (k : Int) := by omega
    rw [Kn.at_toList a k h1, Kn.at_toList b k h2] at hl
    have HL := Lib.hid hl
    clear hl
    rcases Kn.bl_step a[k] b[k] (a.toList.drop (k + 1)) (b.toList.drop (k + 1)) with ⟨h3, h4⟩ | ⟨h3, h4⟩
    ·have H4 := Lib.hid h4
     clear h4
     go_wp2_with fail
     go_quiet (fail)
     go_wp2_with fail
     go_quiet (fail)
     go_wp2
     go_ret
     exact ⟨congrArg (fun x => Ending.returned (.bool x)) (HL.out.trans H4.out).symm, _, by rw [World.drewN_drewN, World.drewN_drewN]⟩
    ·have H4 := Lib.hid h4
     clear h4
     go_wp2_with fail
     go_quiet (fail)
     go_wp2
     go_roundw
     case rel => exact ⟨k + 1, by omega, by omega, by simp, by rw [HL.out, H4.out], _, rfl⟩
     case measure => simp [intOf]; omega
   ·have d1 : (k : Int) < (a.size : Int) := by omega
    have d2 : ¬ (k : Int) < (b.size : Int) := by omega
    go_wp2
    go_ret
    exact ⟨congrArg (fun x => Ending.returned (.bool x)) (Kn.bl_end a b k hka hkb (.inr h2)).symm, _, rfl⟩
  ·have d1 : ¬ (k : Int) < (a.size : Int) := by omega
   go_wp2
   go_ret
   exact ⟨congrArg (fun x => Ending.returned (.bool x)) (Kn.bl_end a b k hka hkb (.inl h1)).symm, _, rfl⟩
theorem Kn.ahead_is (a b : Kn.V) : (decide (Kn.cmp a b < 0)) = (if a.null = true then !b.null else if b.null = true then false else if (a.n != b.n) = true then decide (a.n < b.n) else Op.bytesLess a.s.toList b.s.toList) := by
 unfold Kn.cmp
 cases a.null <;> cases b.null <;> simp only [Bool.false_eq_true, if_false, if_true]
 ·by_cases h : a.n = b.n
  ·rw [h]
   have e : Kn.ncmp b.n b.n = 0 := (Kn.ncmp_zero _ _).2 rfl
   rw [e]
   have e2 : (b.n != b.n) = false := by simp
   rw [e2, if_neg (by simp)]
   show decide (Kn.lcmp a.s.toList b.s.toList < 0) = _
   unfold Kn.lcmp
   cases Op.bytesLess a.s.toList b.s.toList
   ·cases Op.bytesLess b.s.toList a.s.toList <;> rfl
   ·rfl
  ·have e : Kn.ncmp a.n b.n ≠ 0 := fun e => h ((Kn.ncmp_zero _ _).1 e)
   have e2 : (a.n != b.n) = true := by rw [bne_iff_ne]; exact h
   rw [if_pos e2]
   unfold Kn.or2
   rw [if_neg e, Bool.eq_iff_iff, decide_eq_true_iff, decide_eq_true_iff]
   unfold Kn.ncmp
   repeat' split <;> omega
 all_goals rfl
set_option maxRecDepth 100000 in
set_option maxHeartbeats 1000000 in
theorem Kn.rAhead_c (a b : Kn.V) (ha : Kn.Z a) (hb : Kn.Z b) (w : World) :
 Calls Try.prog 35 #[a.val, b.val] w fun e w' => e = .returned (.bool (decide (Kn.cmp a b < 0))) ∧ Below w.heap.size w w' := by
 rw [Kn.ahead_is]
 obtain ⟨an, ai, sa⟩ := a
 obtain ⟨bn, bi, sb⟩ := b
 unfold Kn.V.val
 cases an <;> cases bn
 ·rcases Bool.eq_false_or_eq_true (ai != bi) with h | h
  ·show Calls _ _ _ _ fun e w' => e = .returned (.bool (if (ai != bi) = true then decide (ai < bi) else Op.bytesLess sa.toList sb.toList)) ∧ _
   rw [if_pos h]
   go_enter Try.func35, Try.ntmps35
   go_wp2
   go_ret
   exact ⟨rfl, ((Below.refl _ w).alloc (Nat.le_refl _) _).alloc (by simp) _⟩
  ·show Calls _ _ _ _ fun e w' => e = .returned (.bool (if (ai != bi) = true then decide (ai < bi) else Op.bytesLess sa.toList sb.toList)) ∧ _
   rw [if_neg (by rw [h]; simp)]
   go_enter Try.func35, Try.ntmps35
   go_wp2_with fail
   refine (Kn.rahead_c sa sb ha hb _).mono ?_
   rintro e w1 ⟨rfl, n, rfl⟩
   go_wp2
   go_ret
   exact ⟨rfl, Kn.below_drewN (((Below.refl _ w).alloc (Nat.le_refl _) _).alloc (by simp) _) n⟩
 all_goals
  go_enter Try.func35, Try.ntmps35
  go_wp2
  go_ret
  exact ⟨rfl, ((Below.refl _ w).alloc (Nat.le_refl _) _).alloc (by simp) _⟩
end Go.Proofs.Ytodeodndjkkkbaa
namespace Go.Proofs.Ytodeodndjkkkbaa.Zn
open Go
open Kn (V cmp)
structure Zo where
 nulls : Bool
 values : Bool
 lo : V
 hi : V
abbrev Zo.val (z : Zo) : Value := .agg #[.bool z.nulls, .bool z.values, .bool z.lo.null, .int .i64 z.lo.n, .string z.lo.s, .bool z.hi.null, .int .i64 z.hi.n, .string z.hi.s]
structure As where
 op : Int
 col : Int
 v : V
abbrev As.val (a : As) : Value := .agg #[.int .i64 a.op, .int .i64 a.col, .bool a.v.null, .int .i64 a.v.n, .string a.v.s]
def zv : V := ⟨false, 0, ⟨#[]⟩⟩
def z0 : Zo := ⟨false, false, zv, zv⟩
def bare (v : V) : V := ⟨false, v.n, v.s⟩
theorem bare_of {v : V} (h : v.null = false) : bare v = v := by
 obtain ⟨a, b, c⟩ := v
 simp only at h
 subst h
 rfl
def add (z : Zo) (v : V) : Zo :=
 if v.null = true then ⟨true, z.values, z.lo, z.hi⟩
 else ⟨z.nulls, true, if z.values = true then (if cmp v z.lo < 0 then v else z.lo) else v, if z.values = true then (if cmp v z.hi > 0 then v else z.hi) else v⟩
def of (l : List V) : Zo := l.foldl add z0
def holds (a : As) (v : V) : Bool :=
 if a.op = 0 then true else if a.op = 4 then v.null else if a.op = 5 then !v.null
 else if (v.null || a.v.null) = true then false
 else if a.op = 1 then cmp v a.v == 0 else if a.op = 2 then decide (cmp v a.v < 0) else if a.op = 3 then decide (0 ≤ cmp v a.v) else false
def may (a : As) (z : Zo) : Bool :=
 if a.op = 0 then (z.nulls || z.values) else if a.op = 4 then z.nulls else if a.op = 5 then z.values
 else if (!z.values || a.v.null) = true then false
 else if a.op = 1 then (decide (cmp (bare z.lo) a.v ≤ 0) && decide (0 ≤ cmp (bare z.hi) a.v)) else if a.op = 2 then decide (cmp (bare z.lo) a.v < 0) else if a.op = 3 then decide (0 ≤ cmp (bare z.hi) a.v) else false
def ends (z : Zo) : List V := if z.values = true then [bare z.lo, bare z.hi] else []
def join (x y : Zo) : Zo := ⟨x.nulls || y.nulls, (of (ends x ++ ends y)).values, (of (ends x ++ ends y)).lo, (of (ends x ++ ends y)).hi⟩
theorem anti (a b : V) : cmp b a = -cmp a b := (Kn.cmp_fair a b b).xa
theorem self (a : V) : cmp a a = 0 := by have := anti a a; omega
theorem trans {a b c : V} (h : cmp a b ≤ 0) (k : cmp b c ≤ 0) : cmp a c ≤ 0 := (Kn.cmp_fair a b c).le h k
theorem lt_trans {a b c : V} (h : cmp a b < 0) (k : cmp b c ≤ 0) : cmp a c < 0 := by
 have f := Kn.cmp_fair a b c
 have h1 := f.le (by omega) k
 rcases Int.lt_or_eq_of_le h1 with h2 | h2
 ·exact h2
 ·have := (f.lt (by omega) k h2).1; omega
theorem s_inj {a b : ByteArray} (h : a.toList = b.toList) : a = b := by
 rw [ByteArray.toList_eq, ByteArray.toList_eq] at h
 obtain ⟨a⟩ := a
 obtain ⟨b⟩ := b
 congr 1
 exact Array.toList_inj.1 h
theorem cmp_eq {a b : V} (ha : a.null = false) (hb : b.null = false) (h : cmp a b = 0) : a = b := by
 obtain ⟨an, ai, sa⟩ := a
 obtain ⟨bn, bi, sb⟩ := b
 simp only at ha hb
 subst ha hb
 have h2 := Kn.cmp_zero ⟨false, ai, sa⟩ ⟨false, bi, sb⟩
 rw [h] at h2
 simp only [Kn.same, Bool.and_false, Bool.not_false, Bool.true_and, Bool.false_or, beq_self_eq_true] at h2
 have h3 := h2.symm
 rw [Bool.and_eq_true, beq_iff_eq, beq_iff_eq] at h3
 rw [h3.1, s_inj h3.2]
structure Inv (l : List V) (z : Zo) : Prop where
 nulls : z.nulls = true ↔ ∃ v ∈ l, v.null = true
 values : z.values = true ↔ ∃ v ∈ l, v.null = false
 zero : z.values = false → z.lo = zv ∧ z.hi = zv
 lo : z.values = true → z.lo ∈ l ∧ z.lo.null = false ∧ ∀ v ∈ l, v.null = false → cmp z.lo v ≤ 0
 hi : z.values = true → z.hi ∈ l ∧ z.hi.null = false ∧ ∀ v ∈ l, v.null = false → cmp v z.hi ≤ 0
theorem Inv.nil : Inv [] z0 := ⟨by simp [z0], by simp [z0], fun _ => ⟨rfl, rfl⟩, (fun h => by cases h), (fun h => by cases h)⟩
theorem Inv.add {l : List V} {z : Zo} (h : Inv l z) (v : V) : Inv (l ++ [v]) (add z v) := by
 unfold Zn.add
 cases hv : v.null
 ·rw [if_neg (by decide)]
  refine ⟨?_, ?_, (fun h => by cases h), fun _ => ?_, fun _ => ?_⟩
  ·show z.nulls = true ↔ _
   rw [h.nulls]
   constructor
   ·rintro ⟨x, hx, hn⟩; exact ⟨x, List.mem_append_left _ hx, hn⟩
   ·rintro ⟨x, hx, hn⟩
    rcases List.mem_append.1 hx with hx | hx
    ·exact ⟨x, hx, hn⟩
    ·rw [List.mem_singleton] at hx
     subst hx
     rw [hv] at hn
     cases hn
  ·show true = true ↔ _
   exact ⟨fun _ => ⟨v, List.mem_append_right _ (List.mem_singleton.2 rfl), hv⟩, fun _ => rfl⟩
  ·show (if z.values = true then (if cmp v z.lo < 0 then v else z.lo) else v) ∈ _ ∧ _
   cases hz : z.values
   ·rw [if_neg (by decide)]
    refine ⟨List.mem_append_right _ (List.mem_singleton.2 rfl), hv, fun x hx hn => ?_⟩
    rcases List.mem_append.1 hx with hx | hx
    ·have := h.values.2 ⟨x, hx, hn⟩
     rw [hz] at this
     cases this
    ·rw [List.mem_singleton] at hx
     subst hx
     rw [self]
     exact Int.le_refl _
   ·obtain ⟨k1, k2, k3⟩ := h.lo hz
    rw [if_pos rfl]
    by_cases hc : cmp v z.lo < 0
    ·rw [if_pos hc]
     refine ⟨List.mem_append_right _ (List.mem_singleton.2 rfl), hv, fun x hx hn => ?_⟩
     rcases List.mem_append.1 hx with hx | hx
     ·exact Int.le_of_lt (lt_trans hc (k3 x hx hn))
     ·rw [List.mem_singleton] at hx
      subst hx
      rw [self]
      exact Int.le_refl _
    ·rw [if_neg hc]
     refine ⟨List.mem_append_left _ k1, k2, fun x hx hn => ?_⟩
     rcases List.mem_append.1 hx with hx | hx
     ·exact k3 x hx hn
     ·rw [List.mem_singleton] at hx
      subst hx
      have := anti x z.lo
      show cmp z.lo x ≤ 0
      omega
  ·show (if z.values = true then (if cmp v z.hi > 0 then v else z.hi) else v) ∈ _ ∧ _
   cases hz : z.values
   ·rw [if_neg (by decide)]
    refine ⟨List.mem_append_right _ (List.mem_singleton.2 rfl), hv, fun x hx hn => ?_⟩
    rcases List.mem_append.1 hx with hx | hx
    ·have := h.values.2 ⟨x, hx, hn⟩
     rw [hz] at this
     cases this
    ·rw [List.mem_singleton] at hx
     subst hx
     rw [self]
     exact Int.le_refl _
   ·obtain ⟨k1, k2, k3⟩ := h.hi hz
    rw [if_pos rfl]
    by_cases hc : cmp v z.hi > 0
    ·rw [if_pos hc]
     refine ⟨List.mem_append_right _ (List.mem_singleton.2 rfl), hv, fun x hx hn => ?_⟩
     rcases List.mem_append.1 hx with hx | hx
     ·have := anti v z.hi
      exact trans (k3 x hx hn) (show cmp z.hi v ≤ 0 by omega)
     ·rw [List.mem_singleton] at hx
      subst hx
      rw [self]
      exact Int.le_refl _
    ·rw [if_neg hc]
     refine ⟨List.mem_append_left _ k1, k2, fun x hx hn => ?_⟩
     rcases List.mem_append.1 hx with hx | hx
     ·exact k3 x hx hn
     ·rw [List.mem_singleton] at hx
      subst hx
      show cmp x z.hi ≤ 0
      omega
 ·rw [if_pos rfl]
  have hval : (∃ x ∈ l ++ [v], x.null = false) ↔ ∃ x ∈ l, x.null = false := by
   constructor
   ·rintro ⟨x, hx, hn⟩
    rcases List.mem_append.1 hx with hx | hx
    ·exact ⟨x, hx, hn⟩
    ·rw [List.mem_singleton] at hx
     subst hx
     rw [hv] at hn
     cases hn
   ·rintro ⟨x, hx, hn⟩; exact ⟨x, List.mem_append_left _ hx, hn⟩
  refine ⟨?_, ?_, fun h0 => h.zero h0, fun hz => ?_, fun hz => ?_⟩
  ·show true = true ↔ _
   exact ⟨fun _ => ⟨v, List.mem_append_right _ (List.mem_singleton.2 rfl), hv⟩, fun _ => rfl⟩
  ·show z.values = true ↔ _
   rw [hval, h.values]
  ·obtain ⟨k1, k2, k3⟩ := h.lo hz
   refine ⟨List.mem_append_left _ k1, k2, fun x hx hn => ?_⟩
   rcases List.mem_append.1 hx with hx | hx
   ·exact k3 x hx hn
   ·rw [List.mem_singleton] at hx
    subst hx
    rw [hv] at hn
    cases hn
  ·obtain ⟨k1, k2, k3⟩ := h.hi hz
   refine ⟨List.mem_append_left _ k1, k2, fun x hx hn => ?_⟩
   rcases List.mem_append.1 hx with hx | hx
   ·exact k3 x hx hn
   ·rw [List.mem_singleton] at hx
    subst hx
    rw [hv] at hn
    cases hn
theorem Inv.more : ∀ (l m : List V) (z : Zo), Inv m z → Inv (m ++ l) (l.foldl Zn.add z)
 | [], m, z, h => by rw [List.append_nil]; exact h
 | v :: l, m, z, h => by
   have := Inv.more l (m ++ [v]) (Zn.add z v) (h.add v)
   rw [List.append_assoc] at this
   exact this
theorem of_inv (l : List V) : Inv l (of l) := by
 have := Inv.more l [] z0 Inv.nil
 rw [List.nil_append] at this
 exact this
theorem bool_iff {a b : Bool} (h : a = true ↔ b = true) : a = b := by cases a <;> cases b <;> simp_all
theorem Inv.one {l m : List V} {z y : Zo} (h : Inv l z) (k : Inv m y) (he : ∀ v, v ∈ l ↔ v ∈ m) : z = y := by
 have h1 : z.nulls = y.nulls := bool_iff (by rw [h.nulls, k.nulls]; simp only [he])
 have h2 : z.values = y.values := bool_iff (by rw [h.values, k.values]; simp only [he])
 obtain ⟨zn, zw, zl, zh⟩ := z
 obtain ⟨yn, yw, yl, yh⟩ := y
 simp only at h1 h2
 subst h1 h2
 cases zw
 ·obtain ⟨rfl, rfl⟩ := h.zero rfl
  obtain ⟨e1, e2⟩ := k.zero rfl
  simp only at e1 e2
  rw [e1, e2]
 ·obtain ⟨a1, a2, a3⟩ := h.lo rfl
  obtain ⟨b1, b2, b3⟩ := k.lo rfl
  obtain ⟨c1, c2, c3⟩ := h.hi rfl
  obtain ⟨d1, d2, d3⟩ := k.hi rfl
  simp only at a1 a2 a3 b1 b2 b3 c1 c2 c3 d1 d2 d3
  have e1 : zl = yl := cmp_eq a2 b2 (by have := a3 yl ((he _).2 b1) b2; have := b3 zl ((he _).1 a1) a2; have := anti zl yl; omega)
  have e2 : zh = yh := cmp_eq c2 d2 (by have := c3 yh ((he _).2 d1) d2; have := d3 zh ((he _).1 c1) c2; have := anti zh yh; omega)
  rw [e1, e2]
theorem mem_ends {z : Zo} {l : List V} (h : Inv l z) {v : V} : v ∈ ends z ↔ z.values = true ∧ (v = z.lo ∨ v = z.hi) := by
 unfold ends
 cases hz : z.values
 ·simp
 ·rw [if_pos rfl, bare_of (h.lo hz).2.1, bare_of (h.hi hz).2.1]
  simp
theorem join_inv {a b : List V} {x y : Zo} (hx : Inv a x) (hy : Inv b y) : Inv (a ++ b) (join x y) := by
 have h := of_inv (ends x ++ ends y)
 have hm : ∀ v, v ∈ ends x ++ ends y ↔ (x.values = true ∧ (v = x.lo ∨ v = x.hi)) ∨ (y.values = true ∧ (v = y.lo ∨ v = y.hi)) := fun v => by
  rw [List.mem_append, mem_ends hx, mem_ends hy]
 have hn : ∀ v, v ∈ ends x ++ ends y → v.null = false := fun v hv => by
  rcases (hm v).1 hv with ⟨hz, rfl | rfl⟩ | ⟨hz, rfl | rfl⟩
  ·exact (hx.lo hz).2.1
  ·exact (hx.hi hz).2.1
  ·exact (hy.lo hz).2.1
  ·exact (hy.hi hz).2.1
 have hin : ∀ v, v ∈ ends x ++ ends y → v ∈ a ++ b := fun v hv => by
  rcases (hm v).1 hv with ⟨hz, rfl | rfl⟩ | ⟨hz, rfl | rfl⟩
  ·exact List.mem_append_left _ (hx.lo hz).1
  ·exact List.mem_append_left _ (hx.hi hz).1
  ·exact List.mem_append_right _ (hy.lo hz).1
  ·exact List.mem_append_right _ (hy.hi hz).1
 unfold join
 generalize of (ends x ++ ends y) = z at h ⊢
 have hv : z.values = true ↔ x.values = true ∨ y.values = true := by
  rw [h.values]
  constructor
  ·rintro ⟨v, hv, _⟩
   rcases (hm v).1 hv with ⟨hz, _⟩ | ⟨hz, _⟩
   ·exact .inl hz
   ·exact .inr hz
  ·rintro (hz | hz)
   ·exact ⟨x.lo, (hm _).2 (.inl ⟨hz, .inl rfl⟩), (hx.lo hz).2.1⟩
   ·exact ⟨y.lo, (hm _).2 (.inr ⟨hz, .inl rfl⟩), (hy.lo hz).2.1⟩
 refine ⟨?_, ?_, h.zero, fun hz => ?_, fun hz => ?_⟩
 ·show (x.nulls || y.nulls) = true ↔ _
  rw [Bool.or_eq_true, hx.nulls, hy.nulls]
  constructor
  ·rintro (⟨v, hv, h1⟩ | ⟨v, hv, h1⟩)
   ·exact ⟨v, List.mem_append_left _ hv, h1⟩
   ·exact ⟨v, List.mem_append_right _ hv, h1⟩
  ·rintro ⟨v, hv, h1⟩
   rcases List.mem_append.1 hv with hv | hv
   ·exact .inl ⟨v, hv, h1⟩
   ·exact .inr ⟨v, hv, h1⟩
 ·show z.values = true ↔ _
  rw [hv, hx.values, hy.values]
  constructor
  ·rintro (⟨v, hv, h1⟩ | ⟨v, hv, h1⟩)
   ·exact ⟨v, List.mem_append_left _ hv, h1⟩
   ·exact ⟨v, List.mem_append_right _ hv, h1⟩
  ·rintro ⟨v, hv, h1⟩
   rcases List.mem_append.1 hv with hv | hv
   ·exact .inl ⟨v, hv, h1⟩
   ·exact .inr ⟨v, hv, h1⟩
 ·obtain ⟨k1, k2, k3⟩ := h.lo hz
  refine ⟨hin _ k1, k2, fun v hv1 hv2 => ?_⟩
  rcases List.mem_append.1 hv1 with hv1 | hv1
  ·have hxv := hx.values.2 ⟨v, hv1, hv2⟩
   obtain ⟨_, j2, j3⟩ := hx.lo hxv
   exact trans (k3 x.lo ((hm _).2 (.inl ⟨hxv, .inl rfl⟩)) j2) (j3 v hv1 hv2)
  ·have hyv := hy.values.2 ⟨v, hv1, hv2⟩
   obtain ⟨_, j2, j3⟩ := hy.lo hyv
   exact trans (k3 y.lo ((hm _).2 (.inr ⟨hyv, .inl rfl⟩)) j2) (j3 v hv1 hv2)
 ·obtain ⟨k1, k2, k3⟩ := h.hi hz
  refine ⟨hin _ k1, k2, fun v hv1 hv2 => ?_⟩
  rcases List.mem_append.1 hv1 with hv1 | hv1
  ·have hxv := hx.values.2 ⟨v, hv1, hv2⟩
   obtain ⟨_, j2, j3⟩ := hx.hi hxv
   exact trans (j3 v hv1 hv2) (k3 x.hi ((hm _).2 (.inl ⟨hxv, .inr rfl⟩)) j2)
  ·have hyv := hy.values.2 ⟨v, hv1, hv2⟩
   obtain ⟨_, j2, j3⟩ := hy.hi hyv
   exact trans (j3 v hv1 hv2) (k3 y.hi ((hm _).2 (.inr ⟨hyv, .inr rfl⟩)) j2)
theorem join_of (a b : List V) : join (of a) (of b) = of (a ++ b) := (join_inv (of_inv a) (of_inv b)).one (of_inv (a ++ b)) fun _ => Iff.rfl
end Go.Proofs.Ytodeodndjkkkbaa.Zn
namespace Go.Proofs.Ytodeodndjkkkbaa
open Go.RowKit
structure Kn.C where
 k : Int
 null : Bool
abbrev Kn.C.val (c : Kn.C) : Value := .agg #[.int .i64 c.k, .bool c.null]
structure Kn.Cols (w : World) (v : Value) (l : List Kn.C) : Prop where
 is : ∃ a c, v = .slice a l.length c ∧ (l = [] ∨ ∃ b o, a = some ⟨b, o, none⟩ ∧ b < w.heap.size ∧ l.length ≤ 9223372036854775807 ∧
  ∀ i x, l[i]? = some x → w.cell? ⟨b, o + i * 2, none⟩ = some (.int .i64 x.k) ∧ w.cell? ⟨b, o + i * 2 + 1, none⟩ = some (.bool x.null))
structure Kn.Vals (w : World) (v : Value) (l : List Kn.V) : Prop where
 is : ∃ a c, v = .slice a l.length c ∧ (l = [] ∨ ∃ b o, a = some ⟨b, o, none⟩ ∧ b < w.heap.size ∧ l.length ≤ 9223372036854775807 ∧ ∀ i x, l[i]? = some x → Kn.At w b (o + i * 3) x)
theorem Kn.Cols.later {w w' : World} {v : Value} {l : List Kn.C} (h : Kn.Cols w v l) (g : Below w.heap.size w w') : Kn.Cols w' v l := by
 obtain ⟨a, c, rfl, h⟩ := h
 refine ⟨a, c, rfl, ?_⟩
 rcases h with h | ⟨b, o, rfl, hlt, hm, h⟩
 ·exact .inl h
 ·refine .inr ⟨b, o, rfl, Nat.lt_of_lt_of_le hlt g.size, hm, fun i x hx => ?_⟩
  exact ⟨(g.cell (p := ⟨b, o + i * 2, none⟩) hlt).trans (h i x hx).1, (g.cell (p := ⟨b, o + i * 2 + 1, none⟩) hlt).trans (h i x hx).2⟩
theorem Kn.Vals.later {w w' : World} {v : Value} {l : List Kn.V} (h : Kn.Vals w v l) (g : Below w.heap.size w w') : Kn.Vals w' v l := by
 obtain ⟨a, c, rfl, h⟩ := h
 refine ⟨a, c, rfl, ?_⟩
 rcases h with h | ⟨b, o, rfl, hlt, hm, h⟩
 ·exact .inl h
 ·exact .inr ⟨b, o, rfl, Nat.lt_of_lt_of_le hlt g.size, hm, fun i x hx => (h i x hx).later g⟩
def Kn.C.good (c : Kn.C) : Bool := !((c.k != 1) && (c.k != 2))
def Kn.headOk : List Kn.C → Bool
 | [] => true
 | c :: _ => !c.null
def Kn.right (l : List Kn.C) : Bool := decide (1 ≤ l.length) && decide (l.length ≤ 6) && Kn.headOk l && l.all Kn.C.good
def Kn.fits (c : Kn.C) (v : Kn.V) : Bool :=
 if v.null = true then c.null && (v.n == 0) && (v.s.toList == (⟨#[]⟩ : ByteArray).toList)
 else if c.k = 1 then v.s.toList == (⟨#[]⟩ : ByteArray).toList
 else (v.n == 0) && decide (v.s.size ≤ 64)
theorem Kn.retb {x y : Bool} (h : x = y) : Ending.returned (.bool x) = Ending.returned (.bool y) := by rw [h]
end Go.Proofs.Ytodeodndjkkkbaa
namespace Go.Proofs.Ytodeodndjkkkbaa
open Go.RowKit
def Kn.fitsAll : List Kn.C → List Kn.V → Bool
 | c :: cs, v :: vs => Kn.fits c v && Kn.fitsAll cs vs
 | _, _ => true
def Kn.fitsE (s : List Kn.C) (r : List Kn.V) : Int := if Kn.right s = true then (if r.length = s.length then (if Kn.fitsAll s r = true then 0 else 6) else 7) else 4
def Kn.keyE (s : List Kn.C) (k : Kn.V) : Int := if Kn.right s = true then (match s with | [] => 4 | c :: _ => if Kn.fits c k = true then 0 else 6) else 4
theorem Kn.right_len {s : List Kn.C} (h : Kn.right s = true) : 1 ≤ s.length ∧ s.length ≤ 6 := by
 unfold Kn.right at h
 simp only [Bool.and_eq_true, decide_eq_true_iff] at h
 omega
end Go.Proofs.Ytodeodndjkkkbaa
namespace Go.Proofs.Ytodeodndjkkkbaa
open Go.RowKit
def Kn.isK (k : Int) (v : Kn.V) : Bool :=
 if v.null = true then (v.n == 0) && (v.s.toList == (⟨#[]⟩ : ByteArray).toList)
 else if k = 1 then v.s.toList == (⟨#[]⟩ : ByteArray).toList
 else (k == 2) && ((v.n == 0) && decide (v.s.size ≤ 64))
end Go.Proofs.Ytodeodndjkkkbaa
namespace Go.Proofs.Ytodeodndjkkkbaa
open Go.RowKit
end Go.Proofs.Ytodeodndjkkkbaa
namespace Go.Proofs.Ytodeodndjkkkbaa
open Go.RowKit
def Kn.sameV (a b : Kn.V) : Bool := (a.null == b.null) && ((a.n == b.n) && (a.s.toList == b.s.toList))
def Kn.sameR : List Kn.V → List Kn.V → Bool
 | a :: l, b :: m => Kn.sameV a b && Kn.sameR l m
 | [], [] => true
 | _, _ => false
theorem Kn.sameR_self : ∀ l : List Kn.V, Kn.sameR l l = true
 | [] => rfl
 | a :: l => by simp [Kn.sameR, Kn.sameV, Kn.sameR_self l]
theorem Kn.sameR_len : ∀ a b : List Kn.V, a.length ≠ b.length → Kn.sameR a b = false
 | [], [], h => absurd rfl h
 | [], _ :: _, _ => rfl
 | _ :: _, [], _ => rfl
 | a :: l, b :: m, h => by
   simp only [Kn.sameR]
   rw [Kn.sameR_len l m (by simpa using h)]
   simp
theorem Kn.sameR_step (s r : List Kn.V) (k : Nat) (c v : Kn.V) (hc : s[k]? = some c) (hv : r[k]? = some v) : Kn.sameR (s.drop k) (r.drop k) = (Kn.sameV c v && Kn.sameR (s.drop (k + 1)) (r.drop (k + 1))) := by
 obtain ⟨h1, rfl⟩ := List.getElem?_eq_some_iff.1 hc
 obtain ⟨h2, rfl⟩ := List.getElem?_eq_some_iff.1 hv
 rw [List.drop_eq_getElem_cons h1, List.drop_eq_getElem_cons h2]
 rfl
theorem Kn.sameR_end (s r : List Kn.V) (k : Nat) (h : ¬ k < s.length) (h2 : r.length = s.length) : Kn.sameR (s.drop k) (r.drop k) = true := by
 rw [List.drop_eq_nil_of_le (by omega), List.drop_eq_nil_of_le (by omega)]
 rfl
theorem Kn.sameV_ways (a b : Kn.V) : (Kn.sameV a b = false ∧ (a.null == b.null) = false) ∨ (Kn.sameV a b = false ∧ (a.null == b.null) = true ∧ (a.n == b.n) = false) ∨ (Kn.sameV a b = false ∧ (a.null == b.null) = true ∧ (a.n == b.n) = true ∧ (a.s.toList == b.s.toList) = false) ∨ (Kn.sameV a b = true ∧ (a.null == b.null) = true ∧ (a.n == b.n) = true ∧ (a.s.toList == b.s.toList) = true) := by
 unfold Kn.sameV
 cases (a.null == b.null) <;> cases (a.n == b.n) <;> cases (a.s.toList == b.s.toList) <;> simp
set_option maxHeartbeats 1000000 in
set_option maxRecDepth 100000 in
theorem Kn.rsame_c (v u : Value) (s r : List Kn.V) (w : World) (hs : Kn.Vals w v s) (hr : Kn.Vals w u r) :
 Calls Try.prog 58 #[v, u] w fun e w' => e = .returned (.bool (Kn.sameR s r)) ∧ ∃ n, w' = w.drewN n := by
 obtain ⟨a, c, rfl, h⟩ := hs
 obtain ⟨a2, c2, rfl, h2⟩ := hr
 by_cases hn : r.length = s.length
 ·rw [hn]
  have hz : ((s.length : Int) != (s.length : Int)) = false := by simp
  generalize hB : Kn.sameR s r = B
  have HB := Lib.hid hB
  clear hB
  go_enter Try.func58, Try.ntmps58
  go_wp2
  go_loopw [5] (fun i wr => ∃ k : Nat, k ≤ s.length ∧ i = .int .i64 k ∧ Kn.sameR s r = Kn.sameR (s.drop k) (r.drop k) ∧ ∃ n, wr = w.drewN n) (fun i _ => s.length - (intOf i).toNat)
  case atStart => exact ⟨0, by omega, rfl, rfl, 0, rfl⟩
  case round =>
   obtain ⟨k, hk, rfl, hg, n, rfl⟩ := hrel
   have HG := Lib.hid hg
   clear hg
   by_cases hkl : k < s.length
   ·rcases h with rfl | ⟨b, o, rfl, hlt, hm, hc⟩
    ·simp at hkl
    ·rcases h2 with rfl | ⟨b2, o2, rfl, hlt2, hm2, hc2⟩
     ·simp at hn; omega
     ·have hx := List.getElem?_eq_getElem hkl
      have hy := List.getElem?_eq_getElem (show k < r.length by omega)
      generalize s[k] = x at hx
      generalize r[k] = y at hy
      have HS := Lib.hid (Kn.sameR_step s r k x y hx hy)
      obtain ⟨e0, e1, e2⟩ := hc k x hx
      obtain ⟨f0, f1, f2⟩ := hc2 k y hy
      have dk : (k : Int) < (s.length : Int) := by omega
      have dk0 : (0 : Int) ≤ (k : Int) := by omega
      have HC := Lib.hid hc
      have HC2 := Lib.hid hc2
      clear hc hc2 hx hy
      rcases Kn.sameV_ways x y with ⟨h0, h1⟩ | ⟨h0, h1, h2⟩ | ⟨h0, h1, h2, h3⟩ | ⟨h0, h1, h2, h3⟩
      all_goals
       have HF := Lib.hid h0
       clear h0
       go_wp2_with fail
       go_quiet (fail)
       go_wp2
      all_goals first
       | (go_ret
          exact ⟨Kn.retb (by rw [← HB.out, HG.out, HS.out, HF.out]; rfl), by first | exact ⟨_, rfl⟩ | exact ⟨_, World.drewN_drewN _ _ _⟩⟩)
       | (go_roundw
          case rel => exact ⟨k + 1, by omega, by simp, by rw [HG.out, HS.out, HF.out]; rfl, by first | exact ⟨_, rfl⟩ | exact ⟨_, World.drewN_drewN _ _ _⟩⟩
          case measure => simp [intOf]; omega)
   ·obtain rfl : k = s.length := by omega
    have dk : ¬ (s.length : Int) < (s.length : Int) := by omega
    have he : B = true := HB.out.symm.trans (HG.out.trans (Kn.sameR_end s r _ (by omega) hn))
    subst he
    go_wp2
    go_ret
    exact ⟨rfl, _, rfl⟩
 ·rw [Kn.sameR_len s r (fun e => hn e.symm)]
  have hz : ((s.length : Int) != (r.length : Int)) = true := by rw [bne_iff_ne]; omega
  go_enter Try.func58, Try.ntmps58
  go_wp2
  go_ret
  exact ⟨rfl, 0, rfl⟩
end Go.Proofs.Ytodeodndjkkkbaa
namespace Go.Proofs.Ytodeodndjkkkbaa.Su
open Go Go.RowKit
open Kn (V cmp)
structure S where
 cnt : Int
 sum : Int
 vals : Int
 lo : V
 hi : V
abbrev cs (s : S) : Array Value := #[.int .i64 s.cnt, .int .i64 s.sum, .int .i64 s.vals, .bool s.lo.null, .int .i64 s.lo.n, .string s.lo.s, .bool s.hi.null, .int .i64 s.hi.n, .string s.hi.s]
abbrev S.val (s : S) : Value := .agg (cs s)
def zero : S := ⟨0, 0, 0, Zn.zv, Zn.zv⟩
def add (s : S) (v : V) : S :=
 ⟨s.cnt, wrap64 (s.sum + v.n), wrap64 (s.vals + 1), if s.vals = 0 ∨ cmp v s.lo < 0 then v else s.lo, if s.vals = 0 ∨ 0 < cmp v s.hi then v else s.hi⟩
def cnt : List V → Nat
 | [] => 0
 | v :: l => (if v.null = true then 0 else 1) + cnt l
def tot : List V → Int
 | [] => 0
 | v :: l => (if v.null = true then 0 else v.n) + tot l
def of (k : Nat) (C : List V) : S := ⟨k, wrap64 (tot C), cnt C, (Zn.of C).lo, (Zn.of C).hi⟩
theorem wrap_l (a b : Int) : wrap64 (wrap64 a + b) = wrap64 (a + b) := by unfold wrap64; omega
theorem wrap_2 (a b : Int) : wrap64 (wrap64 a + wrap64 b) = wrap64 (a + b) := by unfold wrap64; omega
theorem cnt_app : ∀ a b : List V, cnt (a ++ b) = cnt a + cnt b
 | [], b => by simp [cnt]
 | v :: a, b => by rw [List.cons_append, cnt, cnt, cnt_app a b]; omega
theorem tot_app : ∀ a b : List V, tot (a ++ b) = tot a + tot b
 | [], b => by simp [tot]
 | v :: a, b => by rw [List.cons_append, tot, tot, tot_app a b]; omega
theorem cnt_le : ∀ a : List V, cnt a ≤ a.length
 | [] => Nat.le_refl _
 | v :: a => by have := cnt_le a; rw [cnt, List.length_cons]; split <;> omega
theorem cnt_pos (C : List V) : 0 < cnt C ↔ ∃ v ∈ C, v.null = false := by
 induction C with
 | nil => simp [cnt]
 | cons x C ih =>
   rw [cnt]
   cases hx : x.null
   ·exact ⟨fun _ => ⟨x, List.mem_cons_self, hx⟩, fun _ => by simp; omega⟩
   ·simp only [if_true, Nat.zero_add]
    rw [ih]
    constructor
    ·rintro ⟨v, hv, h⟩; exact ⟨v, List.mem_cons_of_mem _ hv, h⟩
    ·rintro ⟨v, hv, h⟩
     rcases List.mem_cons.1 hv with rfl | hv
     ·rw [hx] at h; cases h
     ·exact ⟨v, hv, h⟩
theorem vals_iff (C : List V) : (Zn.of C).values = true ↔ 0 < cnt C := by rw [(Zn.of_inv C).values, cnt_pos]
theorem of_snoc (C : List V) (v : V) : Zn.of (C ++ [v]) = Zn.add (Zn.of C) v := by
 unfold Zn.of
 rw [List.foldl_append]
 rfl
theorem add_of (k : Nat) (C : List V) (v : V) (hv : v.null = false) (hl : C.length ≤ 4611686018427387904) : add (of k C) v = of k (C ++ [v]) := by
 have hc := cnt_le C
 have e1 : wrap64 (wrap64 (tot C) + v.n) = wrap64 (tot (C ++ [v])) := by
  rw [wrap_l, tot_app]
  congr 1
  simp [tot, hv]
 have e2 : wrap64 ((cnt C : Int) + 1) = (cnt (C ++ [v]) : Nat) := by
  rw [cnt_app]
  simp only [cnt, hv, Bool.false_eq_true, if_false]
  unfold wrap64
  omega
 unfold add of
 simp only
 rw [e1, e2, of_snoc]
 unfold Zn.add
 simp only [hv, Bool.false_eq_true, if_false]
 by_cases h : 0 < cnt C
 ·have hz := (vals_iff C).2 h
  have hn : ¬ (cnt C : Int) = 0 := by omega
  simp only [hz, hn, false_or, if_true, gt_iff_lt]
 ·have hz : (Zn.of C).values = false := by
   cases hz : (Zn.of C).values
   ·rfl
   ·exact absurd ((vals_iff C).1 hz) h
  have hn : (cnt C : Int) = 0 := by omega
  simp only [hz, hn, true_or, if_true, Bool.false_eq_true, if_false]
theorem of_null (k : Nat) (C : List V) (v : V) (hv : v.null = true) : of k (C ++ [v]) = of k C := by
 unfold of
 rw [of_snoc, cnt_app, tot_app]
 unfold Zn.add
 simp [cnt, tot, hv]
def join (a b : S) : S :=
 ⟨wrap64 (a.cnt + b.cnt), wrap64 (a.sum + b.sum), wrap64 (a.vals + b.vals),
  if 0 < a.vals then (if 0 < b.vals then (if cmp b.lo a.lo < 0 then b.lo else a.lo) else a.lo) else if 0 < b.vals then b.lo else Zn.zv,
  if 0 < a.vals then (if 0 < b.vals then (if 0 < cmp b.hi a.hi then b.hi else a.hi) else a.hi) else if 0 < b.vals then b.hi else Zn.zv⟩
theorem zone_two {a b : List V} {x y : Zn.Zo} (hx : Zn.Inv a x) (hy : Zn.Inv b y) :
 Zn.Inv (a ++ b) ⟨x.nulls || y.nulls, x.values || y.values,
  if x.values = true then (if y.values = true then (if cmp y.lo x.lo < 0 then y.lo else x.lo) else x.lo) else if y.values = true then y.lo else Zn.zv,
  if x.values = true then (if y.values = true then (if 0 < cmp y.hi x.hi then y.hi else x.hi) else x.hi) else if y.values = true then y.hi else Zn.zv⟩ := by
 have hex : ∀ p : V → Prop, (∃ v ∈ a ++ b, p v) ↔ (∃ v ∈ a, p v) ∨ ∃ v ∈ b, p v := fun p => by
  constructor
  ·rintro ⟨v, hv, h⟩
   rcases List.mem_append.1 hv with hv | hv
   ·exact .inl ⟨v, hv, h⟩
   ·exact .inr ⟨v, hv, h⟩
  ·rintro (⟨v, hv, h⟩ | ⟨v, hv, h⟩)
   ·exact ⟨v, List.mem_append_left _ hv, h⟩
   ·exact ⟨v, List.mem_append_right _ hv, h⟩
 have no : ∀ {l : List V} {z : Zn.Zo}, Zn.Inv l z → z.values = false → ∀ v ∈ l, v.null = false → False := fun {l z} h hz v hv hn => by
  have := h.values.2 ⟨v, hv, hn⟩
  rw [hz] at this
  cases this
 refine ⟨?_, ?_, fun hz => ?_, fun hz => ?_, fun hz => ?_⟩
 ·show (x.nulls || y.nulls) = true ↔ _
  rw [hex, Bool.or_eq_true, hx.nulls, hy.nulls]
 ·show (x.values || y.values) = true ↔ _
  rw [hex, Bool.or_eq_true, hx.values, hy.values]
 ·simp only [Bool.or_eq_false_iff] at hz
  simp only [hz.1, hz.2, Bool.false_eq_true, if_false, and_self]
 ·simp only [Bool.or_eq_true] at hz
  cases hxv : x.values <;> cases hyv : y.values <;> simp only [hxv, hyv, Bool.false_eq_true, if_false, if_true] at hz ⊢
  ·rcases hz with h | h <;> cases h
  ·obtain ⟨k1, k2, k3⟩ := hy.lo hyv
   refine ⟨List.mem_append_right _ k1, k2, fun v hv hn => ?_⟩
   rcases List.mem_append.1 hv with hv | hv
   ·exact (no hx hxv v hv hn).elim
   ·exact k3 v hv hn
  ·obtain ⟨k1, k2, k3⟩ := hx.lo hxv
   refine ⟨List.mem_append_left _ k1, k2, fun v hv hn => ?_⟩
   rcases List.mem_append.1 hv with hv | hv
   ·exact k3 v hv hn
   ·exact (no hy hyv v hv hn).elim
  ·obtain ⟨k1, k2, k3⟩ := hx.lo hxv
   obtain ⟨j1, j2, j3⟩ := hy.lo hyv
   by_cases hc : cmp y.lo x.lo < 0
   ·rw [if_pos hc]
    refine ⟨List.mem_append_right _ j1, j2, fun v hv hn => ?_⟩
    rcases List.mem_append.1 hv with hv | hv
    ·exact Int.le_of_lt (Zn.lt_trans hc (k3 v hv hn))
    ·exact j3 v hv hn
   ·rw [if_neg hc]
    refine ⟨List.mem_append_left _ k1, k2, fun v hv hn => ?_⟩
    rcases List.mem_append.1 hv with hv | hv
    ·exact k3 v hv hn
    ·have := Zn.anti y.lo x.lo
     exact Zn.trans (show cmp x.lo y.lo ≤ 0 by omega) (j3 v hv hn)
 ·simp only [Bool.or_eq_true] at hz
  cases hxv : x.values <;> cases hyv : y.values <;> simp only [hxv, hyv, Bool.false_eq_true, if_false, if_true] at hz ⊢
  ·rcases hz with h | h <;> cases h
  ·obtain ⟨k1, k2, k3⟩ := hy.hi hyv
   refine ⟨List.mem_append_right _ k1, k2, fun v hv hn => ?_⟩
   rcases List.mem_append.1 hv with hv | hv
   ·exact (no hx hxv v hv hn).elim
   ·exact k3 v hv hn
  ·obtain ⟨k1, k2, k3⟩ := hx.hi hxv
   refine ⟨List.mem_append_left _ k1, k2, fun v hv hn => ?_⟩
   rcases List.mem_append.1 hv with hv | hv
   ·exact k3 v hv hn
   ·exact (no hy hyv v hv hn).elim
  ·obtain ⟨k1, k2, k3⟩ := hx.hi hxv
   obtain ⟨j1, j2, j3⟩ := hy.hi hyv
   by_cases hc : 0 < cmp y.hi x.hi
   ·rw [if_pos hc]
    refine ⟨List.mem_append_right _ j1, j2, fun v hv hn => ?_⟩
    rcases List.mem_append.1 hv with hv | hv
    ·have := Zn.anti y.hi x.hi
     exact Zn.trans (k3 v hv hn) (show cmp x.hi y.hi ≤ 0 by omega)
    ·exact j3 v hv hn
   ·rw [if_neg hc]
    refine ⟨List.mem_append_left _ k1, k2, fun v hv hn => ?_⟩
    rcases List.mem_append.1 hv with hv | hv
    ·exact k3 v hv hn
    ·exact Zn.trans (j3 v hv hn) (show cmp y.hi x.hi ≤ 0 by omega)
theorem vals_of {C : List V} : ((0 : Int) < (cnt C : Nat)) ↔ (Zn.of C).values = true := by
 rw [vals_iff]
 omega
theorem join_of (k m : Nat) (a b : List V) (hk : k + m ≤ 4611686018427387904) (ha : a.length + b.length ≤ 4611686018427387904) : join (of k a) (of m b) = of (k + m) (a ++ b) := by
 have h := (zone_two (Zn.of_inv a) (Zn.of_inv b)).one (Zn.of_inv (a ++ b)) fun _ => Iff.rfl
 have h1 := cnt_le a
 have h2 := cnt_le b
 have e1 : wrap64 ((k : Int) + (m : Int)) = ((k + m : Nat) : Int) := by unfold wrap64; omega
 have e3 : wrap64 ((cnt a : Int) + (cnt b : Int)) = (cnt (a ++ b) : Nat) := by rw [cnt_app]; unfold wrap64; omega
 unfold join of
 simp only [vals_of]
 rw [e1, wrap_2, tot_app, e3, ← h]
theorem of_back (k : Nat) (a : List V) : of k a.reverse = of k a := by
 have hc : ∀ a : List V, cnt a.reverse = cnt a := fun a => by
  induction a with
  | nil => rfl
  | cons x a ih => rw [List.reverse_cons, cnt_app, ih]; simp only [cnt]; omega
 have ht : ∀ a : List V, tot a.reverse = tot a := fun a => by
  induction a with
  | nil => rfl
  | cons x a ih => rw [List.reverse_cons, tot_app, ih]; simp only [tot]; omega
 unfold of
 rw [hc, ht, (Zn.of_inv a.reverse).one (Zn.of_inv a) fun _ => List.mem_reverse]
theorem of_zero (k : Nat) (a : List V) (h : cnt a = 0) : of k a = ⟨k, wrap64 (tot a), 0, Zn.zv, Zn.zv⟩ := by
 have hv : (Zn.of a).values = false := by
  cases hv : (Zn.of a).values
  ·rfl
  ·have := (vals_iff a).1 hv; omega
 obtain ⟨e1, e2⟩ := (Zn.of_inv a).zero hv
 unfold of
 rw [e1, e2, h]
 rfl
theorem tot_zero : ∀ a : List V, cnt a = 0 → tot a = 0
 | [], _ => rfl
 | v :: a, h => by
   rw [cnt] at h
   cases hv : v.null
   ·rw [hv] at h
    simp only [Bool.false_eq_true, if_false] at h
    exact absurd h (by omega)
   ·rw [tot, tot_zero a (by omega), hv]
    simp
def hasC (c : Int) (r : List V) : Bool := decide (0 ≤ c) && decide (c < (r.length : Nat))
def cell (c : Int) (r : List V) : V := r.getD c.toNat Zn.zv
def col (c : Int) (rows : List (List V)) : List V := rows.map (cell c)
def fold (c : Int) (rows : List (List V)) : S × Int := if rows.all (hasC c) = true then (of rows.length (col c rows), 0) else (zero, 7)
theorem cell_at {c : Int} {r : List V} (h : hasC c r = true) : ∃ x, r[c.toNat]? = some x ∧ cell c r = x := by
 unfold hasC at h
 simp only [Bool.and_eq_true, decide_eq_true_eq] at h
 have hl : c.toNat < r.length := by omega
 exact ⟨r[c.toNat], List.getElem?_eq_getElem hl, by unfold cell; rw [List.getD_eq_getElem?_getD, List.getElem?_eq_getElem hl]; rfl⟩
theorem col_snoc (c : Int) (rows : List (List V)) (k : Nat) (r : List V) (h : rows[k]? = some r) : col c (rows.take (k + 1)) = col c (rows.take k) ++ [cell c r] := by
 obtain ⟨hk, rfl⟩ := List.getElem?_eq_some_iff.1 h
 unfold col
 rw [List.take_succ_eq_append_getElem hk, List.map_append]
 rfl
def pick (cs : List Int) (r : List V) : Option (List V) := if cs.all (fun c => hasC c r) = true then some (cs.map fun c => cell c r) else none
def proj (cs : List Int) (rows : List (List V)) : List (List V) := rows.map fun r => cs.map fun c => cell c r
def okP (cs : List Int) (rows : List (List V)) : Bool := rows.all fun r => cs.all fun c => hasC c r
end Go.Proofs.Ytodeodndjkkkbaa.Su
