import Derived.Test.YtbelkhkllneifaaGreatDoorRows
import GoSem.Op.String
import Derived.WalkKit
import Derived.WalkSpells
import Derived.WalkLawsBesides
import Derived.Laws.StructEq
import Derived.Lib.QuietBelow
import Derived.Deep.RegionWith
import Derived.Deep.DeepCutAuto
import Derived.BigQuiet
import Derived.StillTailTactics
import Derived.Lib.Hide
import Derived.Deep.QuietTactic
import Derived.IntWalk
import Derived.Laws.BitsLemmas
import Derived.Laws.Bits64
namespace Go.Proofs.YtbelkhkllneifaaGreatDoor.Kn
open Go
theorem bl_irrefl : ∀ l : List UInt8, Op.bytesLess l l = false
 | [] => rfl
 | a :: l => by simp [Op.bytesLess, bl_irrefl l]
theorem bl_total : ∀ a b : List UInt8, Op.bytesLess a b = true ∨ a = b ∨ Op.bytesLess b a = true
 | [], [] => .inr (.inl rfl)
 | [], _ :: _ => .inl rfl
 | _ :: _, [] => .inr (.inr rfl)
 | a :: x, b :: y => by
   rcases Nat.lt_trichotomy a.toNat b.toNat with h | h | h
   ·left; simp [Op.bytesLess, UInt8.lt_iff_toNat_lt, h]
   ·have e : a = b := UInt8.toNat_inj.1 h
    subst e
    rcases bl_total x y with g | g | g
    ·left; simp [Op.bytesLess, g]
    ·right; left; rw [g]
    ·right; right; simp [Op.bytesLess, g]
   ·right; right; simp [Op.bytesLess, UInt8.lt_iff_toNat_lt, h]
theorem bl_trans : ∀ a b c : List UInt8, Op.bytesLess a b = true → Op.bytesLess b c = true → Op.bytesLess a c = true
 | _, [], _, h, _ => by simp [Op.bytesLess] at h
 | _, _ :: _, [], _, h => by simp [Op.bytesLess] at h
 | [], _ :: _, _ :: _, _, _ => rfl
 | a :: x, b :: y, c :: z, h, k => by
   simp only [Op.bytesLess, Bool.or_eq_true, decide_eq_true_eq, Bool.and_eq_true, beq_iff_eq, UInt8.lt_iff_toNat_lt] at h k ⊢
   rcases h with h | ⟨rfl, h⟩ <;> rcases k with k | ⟨rfl, k⟩
   ·left; omega
   ·left; exact h
   ·left; exact k
   ·right; exact ⟨rfl, bl_trans x y z h k⟩
theorem bl_asymm (a b : List UInt8) (h : Op.bytesLess a b = true) : Op.bytesLess b a = false := by
 cases hb : Op.bytesLess b a with
 | false => rfl
 | true => have := bl_trans a b a h hb; rw [bl_irrefl] at this; cases this
structure V where
 null : Bool
 n : Int
 s : ByteArray
abbrev V.val (v : V) : Value := .agg #[.bool v.null, .int .i64 v.n, .string v.s]
def ncmp (a b : Int) : Int := if a < b then -1 else if b < a then 1 else 0
def lcmp (a b : List UInt8) : Int := if Op.bytesLess a b = true then -1 else if Op.bytesLess b a = true then 1 else 0
def scmp (a b : ByteArray) : Int := lcmp a.toList b.toList
def or2 (x y : Int) : Int := if x = 0 then y else x
def cmp (a b : V) : Int := if a.null = true then (if b.null = true then 0 else -1) else if b.null = true then 1 else or2 (ncmp a.n b.n) (scmp a.s b.s)
structure Fair (x y z x' y' z' : Int) : Prop where
 xr : -1 ≤ x ∧ x ≤ 1
 yr : -1 ≤ y ∧ y ≤ 1
 zr : -1 ≤ z ∧ z ≤ 1
 xa : x' = -x
 ya : y' = -y
 za : z' = -z
 le : x ≤ 0 → y ≤ 0 → z ≤ 0
 lt : x ≤ 0 → y ≤ 0 → z = 0 → x = 0 ∧ y = 0
 ge : x ≥ 0 → y ≥ 0 → z ≥ 0
 gt : x ≥ 0 → y ≥ 0 → z = 0 → x = 0 ∧ y = 0
theorem ncmp_fair (a b c : Int) : Fair (ncmp a b) (ncmp b c) (ncmp a c) (ncmp b a) (ncmp c b) (ncmp c a) := by
 unfold ncmp
 constructor <;> (repeat' split) <;> omega
theorem bl_ne {a b : List UInt8} (h : Op.bytesLess a b = true) : Op.bytesLess b a = false ∧ a ≠ b := ⟨bl_asymm a b h, fun e => by rw [e, bl_irrefl] at h; cases h⟩
theorem lcmp_lt {a b : List UInt8} (h : Op.bytesLess a b = true) : lcmp a b = -1 ∧ lcmp b a = 1 := by simp [lcmp, h, bl_asymm a b h]
theorem lcmp_self (a : List UInt8) : lcmp a a = 0 := by simp [lcmp, bl_irrefl]
theorem lcmp_anti (a b : List UInt8) : lcmp b a = -lcmp a b ∧ -1 ≤ lcmp a b ∧ lcmp a b ≤ 1 := by
 rcases bl_total a b with h | rfl | h
 ·rw [(lcmp_lt h).1, (lcmp_lt h).2]; omega
 ·rw [lcmp_self]; omega
 ·rw [(lcmp_lt h).1, (lcmp_lt h).2]; omega
theorem lcmp_chain (a b c : List UInt8) (h1 : lcmp a b ≤ 0) (h2 : lcmp b c ≤ 0) : lcmp a c ≤ 0 ∧ (lcmp a c = 0 → lcmp a b = 0 ∧ lcmp b c = 0) := by
 rcases bl_total a b with h | rfl | h
 ·rcases bl_total b c with k | rfl | k
  ·have := (lcmp_lt (bl_trans a b c h k)).1
   omega
  ·rw [lcmp_self]; omega
  ·have := (lcmp_lt k).2; omega
 ·rw [lcmp_self]; omega
 ·have := (lcmp_lt h).2; omega
theorem lcmp_fair (a b c : List UInt8) : Fair (lcmp a b) (lcmp b c) (lcmp a c) (lcmp b a) (lcmp c b) (lcmp c a) := by
 have h1 := lcmp_anti a b
 have h2 := lcmp_anti b c
 have h3 := lcmp_anti a c
 have h4 := lcmp_chain a b c
 have h5 := lcmp_chain c b a
 constructor <;> omega
theorem lex_fair {x y z x' y' z' p q r p' q' r' : Int} (h : Fair x y z x' y' z') (k : Fair p q r p' q' r') : Fair (or2 x p) (or2 y q) (or2 z r) (or2 x' p') (or2 y' q') (or2 z' r') := by
 obtain ⟨⟨h1, h2⟩, ⟨h3, h4⟩, ⟨h5, h6⟩, rfl, rfl, rfl, h10, h11, h12, h13⟩ := h
 obtain ⟨⟨k1, k2⟩, ⟨k3, k4⟩, ⟨k5, k6⟩, rfl, rfl, rfl, k10, k11, k12, k13⟩ := k
 unfold or2
 constructor <;> (repeat' split) <;> omega
theorem cmp_fair (a b c : V) : Fair (cmp a b) (cmp b c) (cmp a c) (cmp b a) (cmp c b) (cmp c a) := by
 have h := lex_fair (ncmp_fair a.n b.n c.n) (show Fair (scmp a.s b.s) (scmp b.s c.s) (scmp a.s c.s) (scmp b.s a.s) (scmp c.s b.s) (scmp c.s a.s) from lcmp_fair a.s.toList b.s.toList c.s.toList)
 unfold cmp
 cases a.null <;> cases b.null <;> cases c.null <;> simp only [Bool.false_eq_true, if_false, if_true]
 ·exact h
 all_goals
  obtain ⟨⟨h1, h2⟩, ⟨h3, h4⟩, ⟨h5, h6⟩, h7, h8, h9, h10, h11, h12, h13⟩ := h
  constructor <;> omega
theorem lcmp_zero (a b : List UInt8) : lcmp a b = 0 ↔ a = b := by
 rcases bl_total a b with h | rfl | h
 ·rw [(lcmp_lt h).1]; exact ⟨fun e => by omega, fun e => absurd e (bl_ne h).2⟩
 ·simp [lcmp_self]
 ·rw [(lcmp_lt h).2]; exact ⟨fun e => by omega, fun e => absurd e.symm (bl_ne h).2⟩
theorem ncmp_zero (a b : Int) : ncmp a b = 0 ↔ a = b := by unfold ncmp; repeat' split <;> omega
theorem or2_zero (x y : Int) : or2 x y = 0 ↔ x = 0 ∧ y = 0 := by unfold or2; split <;> omega
def same (a b : V) : Bool := (a.null && b.null) || ((!a.null && !b.null) && a.n == b.n && a.s.toList == b.s.toList)
theorem cmp_zero (a b : V) : (cmp a b == 0) = same a b := by
 rw [Bool.eq_iff_iff, beq_iff_eq]
 unfold cmp same
 cases a.null <;> cases b.null <;> simp [or2_zero, ncmp_zero, scmp, lcmp_zero]
end Go.Proofs.YtbelkhkllneifaaGreatDoor.Kn
namespace Go.Proofs.YtbelkhkllneifaaGreatDoor
open Go.RowKit
set_option maxRecDepth 100000 in
theorem Kn.isNaNi_c (a : Int) (w : World) : Calls Tryz.prog 120 #[.int .i64 a] w fun e w' => e = .returned (.bool false) ∧ w' = w := by
 go_enter Tryz.func120, Tryz.ntmps120
 go_wp2
 go_ret
 exact ⟨rfl, rfl⟩
set_option maxRecDepth 100000 in
theorem Kn.isNaNs_c (a : ByteArray) (w : World) : Calls Tryz.prog 121 #[.string a] w fun e w' => e = .returned (.bool false) ∧ w' = w := by
 go_enter Tryz.func121, Tryz.ntmps121
 go_wp2
 go_ret
 exact ⟨rfl, rfl⟩
set_option maxRecDepth 100000 in
theorem Kn.cmpi_c (a b : Int) (w : World) : Calls Tryz.prog 94 #[.int .i64 a, .int .i64 b] w fun e w' => e = .returned (.int .i64 (Kn.ncmp a b)) ∧ w' = w := by
 have hc : (a < b ∧ Kn.ncmp a b = -1) ∨ (¬ a < b ∧ b < a ∧ Kn.ncmp a b = 1) ∨ (¬ a < b ∧ ¬ b < a ∧ Kn.ncmp a b = 0) := by unfold Kn.ncmp; repeat' split <;> omega
 rcases hc with ⟨h1, h⟩ | ⟨h1, h2, h⟩ | ⟨h1, h2, h⟩
 all_goals
  rw [h]
  go_enter Tryz.func94, Tryz.ntmps94
  go_wp2_with fail
  refine (Kn.isNaNi_c _ _).mono ?_
  rintro e w1 ⟨rfl, rfl⟩
  go_wp2_with fail
  refine (Kn.isNaNi_c _ _).mono ?_
  rintro e w1 ⟨rfl, rfl⟩
  go_wp2
  go_ret
  exact ⟨rfl, rfl⟩
set_option maxRecDepth 100000 in
theorem Kn.cmps_c (a b : ByteArray) (w : World) : Calls Tryz.prog 95 #[.string a, .string b] w fun e w' => e = .returned (.int .i64 (Kn.scmp a b)) ∧ w' = w := by
 have hc : (Op.bytesLess a.toList b.toList = true ∧ Kn.scmp a b = -1) ∨ (Op.bytesLess a.toList b.toList = false ∧ (a.toList == b.toList) = false ∧ Kn.scmp a b = 1) ∨ (Op.bytesLess a.toList b.toList = false ∧ (a.toList == b.toList) = true ∧ Kn.scmp a b = 0) := by
  unfold Kn.scmp Kn.lcmp
  rcases Kn.bl_total a.toList b.toList with h | h | h
  ·left; rw [h]; exact ⟨rfl, rfl⟩
  ·right; right; rw [h, Kn.bl_irrefl]; exact ⟨rfl, by simp, rfl⟩
  ·right; left; rw [h, (Kn.bl_ne h).1]; exact ⟨rfl, by rw [beq_eq_false_iff_ne]; exact fun e => (Kn.bl_ne h).2 e.symm, rfl⟩
 rcases hc with ⟨h1, h⟩ | ⟨h1, h2, h⟩ | ⟨h1, h2, h⟩
 all_goals
  rw [h]
  go_enter Tryz.func95, Tryz.ntmps95
  go_wp2_with fail
  refine (Kn.isNaNs_c _ _).mono ?_
  rintro e w1 ⟨rfl, rfl⟩
  go_wp2_with fail
  refine (Kn.isNaNs_c _ _).mono ?_
  rintro e w1 ⟨rfl, rfl⟩
  go_wp2
  go_ret
  exact ⟨rfl, rfl⟩
set_option maxRecDepth 100000 in
theorem Kn.or_c (b : Nat) (x y : Int) (w : World) (h0 : w.cell? ⟨b, 0, none⟩ = some (.int .i64 x)) (h1 : w.cell? ⟨b, 1, none⟩ = some (.int .i64 y)) :
 Calls Tryz.prog 93 #[.slice (some ⟨b, 0, none⟩) 2 2] w fun e w' => e = .returned (.int .i64 (Kn.or2 x y)) ∧ w' = w := by
 have hc : ((x != 0) = true ∧ Kn.or2 x y = x) ∨ ((x != 0) = false ∧ (y != 0) = true ∧ Kn.or2 x y = y) ∨ ((x != 0) = false ∧ (y != 0) = false ∧ Kn.or2 x y = 0) := by
  unfold Kn.or2
  by_cases hx : x = 0 <;> by_cases hy : y = 0 <;> simp [hx, hy]
 rcases hc with ⟨h2, h⟩ | ⟨h2, h3, h⟩ | ⟨h2, h3, h⟩
 ·rw [h]
  go_enter Tryz.func93, Tryz.ntmps93
  go_wp2_with fail
  refine wp_loop_rounds 3 ?_; rw [rounds_succ]
  go_wp2
  go_ret
  exact ⟨rfl, rfl⟩
 ·rw [h]
  go_enter Tryz.func93, Tryz.ntmps93
  go_wp2_with fail
  refine wp_loop_rounds 3 ?_; rw [rounds_succ]
  go_wp2
  rw [rounds_succ]
  go_wp2
  go_ret
  exact ⟨rfl, rfl⟩
 ·rw [h]
  go_enter Tryz.func93, Tryz.ntmps93
  go_wp2_with fail
  refine wp_loop_rounds 3 ?_; rw [rounds_succ]
  go_wp2
  rw [rounds_succ]
  go_wp2
  rw [rounds_succ]
  go_wp2
  go_ret
  exact ⟨rfl, rfl⟩
set_option maxRecDepth 100000 in
theorem Kn.new2 (w : World) (x y : Value) (t : TypeId) (b : Nat) (hb : b = w.heap.size) : (w.alloc (.cells #[x, y] t)).drew.cell? ⟨b, 0, none⟩ = some x ∧ (w.alloc (.cells #[x, y] t)).drew.cell? ⟨b, 1, none⟩ = some y := by
 subst hb
 have h := heap_alloc_new w (.cells #[x, y] t)
 show (w.alloc (.cells #[x, y] t)).cell? ⟨w.heap.size, 0, none⟩ = some x ∧ (w.alloc (.cells #[x, y] t)).cell? ⟨w.heap.size, 1, none⟩ = some y
 unfold World.cell?
 simp only [h]
 exact ⟨rfl, rfl⟩
set_option maxRecDepth 100000 in
set_option maxHeartbeats 400000 in
theorem Kn.compare_c (a b : Kn.V) (w : World) : Calls Tryz.prog 66 #[a.val, b.val] w fun e w' => e = .returned (.int .i64 (Kn.cmp a b)) ∧ Below w.heap.size w w' := by
 obtain ⟨an, ai, sa⟩ := a
 obtain ⟨bn, bi, sb⟩ := b
 unfold Kn.V.val
 cases an <;> cases bn
 ·have h : Kn.cmp ⟨false, ai, sa⟩ ⟨false, bi, sb⟩ = Kn.or2 (Kn.ncmp ai bi) (Kn.scmp sa sb) := rfl
  rw [h]
  go_enter Tryz.func66, Tryz.ntmps66
  go_wp2_with fail
  refine wp_region_still_tail 10 (by kernel_rfl) (by kernel_rfl) ?_
  simp only [List.take_succ_cons, List.take_zero, List.drop_succ_cons, List.drop_zero]
  change wpStill _ _ (World.drew _) (fun a' => wpList _ _ _ _ a' (World.drew _)) _ _
  still_step
  still_step
  still_step
  still_step
  still_call (Kn.cmpi_c ai bi _)
  still_step
  still_step
  still_step
  still_step
  still_call (Kn.cmps_c sa sb _)
  refine wpStill_nil ?_
  go_wp2_with fail
  refine (Kn.or_c _ (Kn.ncmp ai bi) (Kn.scmp sa sb) _ (Kn.new2 _ _ _ _ _ (by simp)).1 (Kn.new2 _ _ _ _ _ (by simp)).2).mono ?_
  rintro e wc ⟨rfl, rfl⟩
  go_wp2
  go_ret
  exact ⟨rfl, ((((Below.refl _ w).alloc (Nat.le_refl _) _).alloc (by simp) _).alloc (by simp; omega) _).drew⟩
 all_goals
  go_enter Tryz.func66, Tryz.ntmps66
  go_wp2
  go_ret
  exact ⟨rfl, ((Below.refl _ w).alloc (Nat.le_refl _) _).alloc (by simp) _⟩
end Go.Proofs.YtbelkhkllneifaaGreatDoor
namespace Go.Proofs.YtbelkhkllneifaaGreatDoor
open Go.RowKit
theorem Kn.below_drewN {B : Nat} {w w' : World} (h : Below B w w') (n : Nat) : Below B w (w'.drewN n) := ⟨h.os, h.tape, h.output, h.size, h.block⟩
structure Kn.At (w : World) (b o : Nat) (v : Kn.V) : Prop where
 c0 : w.cell? ⟨b, o, none⟩ = some (.bool v.null)
 c1 : w.cell? ⟨b, o + 1, none⟩ = some (.int .i64 v.n)
 c2 : w.cell? ⟨b, o + 2, none⟩ = some (.string v.s)
theorem Kn.At.lt {w : World} {b o : Nat} {v : Kn.V} (h : Kn.At w b o v) : b < w.heap.size := World.block_lt_of_cell? w _ h.c0
theorem Kn.At.later {w w' : World} {b o : Nat} {v : Kn.V} (h : Kn.At w b o v) (g : Below w.heap.size w w') : Kn.At w' b o v :=
 ⟨(g.cell (p := ⟨b, o, none⟩) h.lt).trans h.c0, (g.cell (p := ⟨b, o + 1, none⟩) h.lt).trans h.c1, (g.cell (p := ⟨b, o + 2, none⟩) h.lt).trans h.c2⟩
theorem Kn.cell_new (w : World) (cs : Array Value) (t : TypeId) (i : Nat) (v : Value) (h : cs[i]? = some v) : (w.alloc (.cells cs t)).cell? ⟨w.heap.size, i, none⟩ = some v := by
 have e := heap_alloc_new w (.cells cs t)
 unfold World.cell?
 simp only [e]
 exact h
theorem Kn.At.new (w : World) (v : Kn.V) (t : TypeId) : Kn.At (w.alloc (.cells #[.bool v.null, .int .i64 v.n, .string v.s] t)) w.heap.size 0 v :=
 ⟨Kn.cell_new w _ t 0 _ rfl, Kn.cell_new w _ t 1 _ rfl, Kn.cell_new w _ t 2 _ rfl⟩
theorem Kn.At.alloc {w : World} {b o : Nat} {v : Kn.V} (h : Kn.At w b o v) (x : Obj) : Kn.At (w.alloc x) b o v := h.later ((Below.refl _ w).alloc (Nat.le_refl _) x)
theorem Kn.boxed2 (w : World) (a b : Kn.V) (t t' : TypeId) : Kn.At ((w.alloc (.cells #[.bool a.null, .int .i64 a.n, .string a.s] t)).alloc (.cells #[.bool b.null, .int .i64 b.n, .string b.s] t')) w.heap.size 0 a ∧
 Kn.At ((w.alloc (.cells #[.bool a.null, .int .i64 a.n, .string a.s] t)).alloc (.cells #[.bool b.null, .int .i64 b.n, .string b.s] t')) (w.heap.size + 1) 0 b := by
 refine ⟨(Kn.At.new w a t).alloc _, ?_⟩
 have := Kn.At.new (w.alloc (.cells #[.bool a.null, .int .i64 a.n, .string a.s] t)) b t'
 rwa [World.size_alloc] at this
def Kn.Z (a : Kn.V) : Prop := a.s.size ≤ 140737488351232
theorem Kn.len_toList (s : ByteArray) : s.toList.length = s.size := by
 rw [ByteArray.toList_eq]
 exact Array.length_toList
theorem Kn.at_toList (s : ByteArray) (k : Nat) (h : k < s.size) : s.toList.drop k = s[k] :: s.toList.drop (k + 1) := by
 have hl : k < s.toList.length := by rw [Kn.len_toList]; exact h
 rw [List.drop_eq_getElem_cons hl]
 congr 1
 rw [List.getElem_of_eq (ByteArray.toList_eq s)]
 rfl
theorem Kn.bl_step (x y : UInt8) (l m : List UInt8) : ((((x.toNat : Int) != (y.toNat : Int)) = true ∧ Op.bytesLess (x :: l) (y :: m) = decide (x.toNat < y.toNat)) ∨ (((x.toNat : Int) != (y.toNat : Int)) = false ∧ Op.bytesLess (x :: l) (y :: m) = Op.bytesLess l m)) := by
 by_cases h : x = y
 ·subst h
  right
  simp [Op.bytesLess]
 ·left
  have hn : x.toNat ≠ y.toNat := fun e => h (UInt8.toNat_inj.1 e)
  refine ⟨by rw [bne_iff_ne]; omega, ?_⟩
  simp [Op.bytesLess, h, UInt8.lt_iff_toNat_lt]
theorem Kn.bl_end (a b : ByteArray) (k : Nat) (ha : k ≤ a.size) (hb : k ≤ b.size) (h : ¬ k < a.size ∨ ¬ k < b.size) : Op.bytesLess (a.toList.drop k) (b.toList.drop k) = decide (a.size < b.size) := by
 by_cases h1 : k < b.size
 ·have e : a.toList.drop k = [] := List.drop_eq_nil_of_le (by rw [Kn.len_toList]; omega)
  rw [e, Kn.at_toList b k h1]
  rw [decide_eq_true (by omega)]
  rfl
 ·have e : b.toList.drop k = [] := List.drop_eq_nil_of_le (by rw [Kn.len_toList]; omega)
  rw [e, decide_eq_false (by omega)]
  cases List.drop k a.toList <;> rfl
set_option maxRecDepth 100000 in
set_option maxHeartbeats 1000000 in
theorem Kn.rahead_c (a b : ByteArray) (ha : a.size ≤ 140737488351232) (hb : b.size ≤ 140737488351232) (w : World) :
 Calls Tryz.prog 81 #[.string a, .string b] w fun e w' => e = .returned (.bool (Op.bytesLess a.toList b.toList)) ∧ ∃ n, w' = w.drewN n := by
 go_enter Tryz.func81, Tryz.ntmps81
 go_wp2
 go_loopw [5] (fun i wr => ∃ k : Nat, k ≤ a.size ∧ k ≤ b.size ∧ i = .int .i64 k ∧ Op.bytesLess a.toList b.toList = Op.bytesLess (a.toList.drop k) (b.toList.drop k) ∧ ∃ n, wr = w.drewN n) (fun i _ => a.size - (intOf i).toNat)
 case atStart => exact ⟨0, by omega, by omega, rfl, rfl, 0, rfl⟩
 case round =>
  obtain ⟨k, hka, hkb, rfl, hl, n, rfl⟩ := hrel
  by_cases h1 : k < a.size
  ·by_cases h2 : k < b.size
   ·have d1 : (k : Int) < (a.size : Int) := by omega
    have d2 : (k : Int) < (b.size : Int) := by omega
    have d0 : 0 ≤ (k : Int) := by omega
    rw [Kn.at_toList a k h1, Kn.at_toList b k h2] at hl
    have HL := Lib.hid hl
    clear hl
    rcases Kn.bl_step a[k] b[k] (a.toList.drop (k + 1)) (b.toList.drop (k + 1)) with ⟨h3, h4⟩ | ⟨h3, h4⟩
    ·have H4 := Lib.hid h4
     clear h4
     go_wp2_with fail
     go_quiet (fail)
     go_wp2_with fail
     go_quiet (fail)
     go_wp2
     go_ret
     exact ⟨congrArg (fun x => Ending.returned (.bool x)) (HL.out.trans H4.out).symm, _, by rw [World.drewN_drewN, World.drewN_drewN]⟩
    ·have H4 := Lib.hid h4
     clear h4
     go_wp2_with fail
     go_quiet (fail)
     go_wp2
     go_roundw
     case rel => exact ⟨k + 1, by omega, by omega, by simp, by rw [HL.out, H4.out], _, rfl⟩
     case measure => simp [intOf]; omega
   ·have d1 : (k : Int) < (a.size : Int) := by omega
    have d2 : ¬ (k : Int) < (b.size : Int) := by omega
    go_wp2
    go_ret
    exact ⟨congrArg (fun x => Ending.returned (.bool x)) (Kn.bl_end a b k hka hkb (.inr h2)).symm, _, rfl⟩
  ·have d1 : ¬ (k : Int) < (a.size : Int) := by omega
   go_wp2
   go_ret
   exact ⟨congrArg (fun x => Ending.returned (.bool x)) (Kn.bl_end a b k hka hkb (.inl h1)).symm, _, rfl⟩
theorem Kn.ahead_is (a b : Kn.V) : (decide (Kn.cmp a b < 0)) = (if a.null = true then !b.null else if b.null = true then false else if (a.n != b.n) = true then decide (a.n < b.n) else Op.bytesLess a.s.toList b.s.toList) := by
 unfold Kn.cmp
 cases a.null <;> cases b.null <;> simp only [Bool.false_eq_true, if_false, if_true]
 ·by_cases h : a.n = b.n
  ·rw [h]
   have e : Kn.ncmp b.n b.n = 0 := (Kn.ncmp_zero _ _).2 rfl
   rw [e]
   have e2 : (b.n != b.n) = false := by simp
   rw [e2, if_neg (by simp)]
   show decide (Kn.lcmp a.s.toList b.s.toList < 0) = _
   unfold Kn.lcmp
   cases Op.bytesLess a.s.toList b.s.toList
   ·cases Op.bytesLess b.s.toList a.s.toList <;> rfl
   ·rfl
  ·have e : Kn.ncmp a.n b.n ≠ 0 := fun e => h ((Kn.ncmp_zero _ _).1 e)
   have e2 : (a.n != b.n) = true := by rw [bne_iff_ne]; exact h
   rw [if_pos e2]
   unfold Kn.or2
   rw [if_neg e, Bool.eq_iff_iff, decide_eq_true_iff, decide_eq_true_iff]
   unfold Kn.ncmp
   repeat' split <;> omega
 all_goals rfl
set_option maxRecDepth 100000 in
set_option maxHeartbeats 1000000 in
theorem Kn.rAhead_c (a b : Kn.V) (ha : Kn.Z a) (hb : Kn.Z b) (w : World) :
 Calls Tryz.prog 45 #[a.val, b.val] w fun e w' => e = .returned (.bool (decide (Kn.cmp a b < 0))) ∧ Below w.heap.size w w' := by
 rw [Kn.ahead_is]
 obtain ⟨an, ai, sa⟩ := a
 obtain ⟨bn, bi, sb⟩ := b
 unfold Kn.V.val
 cases an <;> cases bn
 ·rcases Bool.eq_false_or_eq_true (ai != bi) with h | h
  ·show Calls _ _ _ _ fun e w' => e = .returned (.bool (if (ai != bi) = true then decide (ai < bi) else Op.bytesLess sa.toList sb.toList)) ∧ _
   rw [if_pos h]
   go_enter Tryz.func45, Tryz.ntmps45
   go_wp2
   go_ret
   exact ⟨rfl, ((Below.refl _ w).alloc (Nat.le_refl _) _).alloc (by simp) _⟩
  ·show Calls _ _ _ _ fun e w' => e = .returned (.bool (if (ai != bi) = true then decide (ai < bi) else Op.bytesLess sa.toList sb.toList)) ∧ _
   rw [if_neg (by rw [h]; simp)]
   go_enter Tryz.func45, Tryz.ntmps45
   go_wp2_with fail
   refine (Kn.rahead_c sa sb ha hb _).mono ?_
   rintro e w1 ⟨rfl, n, rfl⟩
   go_wp2
   go_ret
   exact ⟨rfl, Kn.below_drewN (((Below.refl _ w).alloc (Nat.le_refl _) _).alloc (by simp) _) n⟩
 all_goals
  go_enter Tryz.func45, Tryz.ntmps45
  go_wp2
  go_ret
  exact ⟨rfl, ((Below.refl _ w).alloc (Nat.le_refl _) _).alloc (by simp) _⟩
set_option maxRecDepth 100000 in
set_option maxHeartbeats 1000000 in
theorem Kn.rCompare_c (a b : Kn.V) (ha : Kn.Z a) (hb : Kn.Z b) (w : World) :
 Calls Tryz.prog 18 #[a.val, b.val] w fun e w' => e = .returned (.int .i64 (Kn.cmp a b)) ∧ Below w.heap.size w w' := by
 have hf := Kn.cmp_fair a b b
 have hc : (Kn.cmp a b = -1 ∧ decide (Kn.cmp a b < 0) = true) ∨ (Kn.cmp a b = 1 ∧ decide (Kn.cmp a b < 0) = false ∧ decide (Kn.cmp b a < 0) = true) ∨ (Kn.cmp a b = 0 ∧ decide (Kn.cmp a b < 0) = false ∧ decide (Kn.cmp b a < 0) = false) := by
  have h1 := hf.xr
  have h2 := hf.xa
  simp only [decide_eq_true_iff, decide_eq_false_iff_not]
  omega
 have ca := Kn.rAhead_c a b ha hb
 have cb := Kn.rAhead_c b a hb ha
 rcases hc with ⟨h1, h2⟩ | ⟨h1, h2, h3⟩ | ⟨h1, h2, h3⟩
 ·rw [h1]
  rw [h2] at ca
  clear cb hf h1 h2
  unfold Kn.V.val at ca ⊢
  go_enter Tryz.func18, Tryz.ntmps18
  go_wp2_with fail
  refine (ca _).mono ?_
  rintro e w1 ⟨rfl, g1⟩
  go_wp2
  go_ret
  exact ⟨rfl, (((Below.refl _ w).alloc (Nat.le_refl _) _).alloc (by simp) _).trans (g1.mono (by simp; omega))⟩
 all_goals
  rw [h1]
  rw [h2] at ca
  rw [h3] at cb
  clear hf h1 h2 h3
  unfold Kn.V.val at ca cb ⊢
  go_enter Tryz.func18, Tryz.ntmps18
  go_wp2_with fail
  refine (ca _).mono ?_
  rintro e w1 ⟨rfl, g1⟩
  obtain ⟨a0, a1, a2⟩ := (Kn.boxed2 w a b _ _).1.later g1
  obtain ⟨b0, b1, b2⟩ := (Kn.boxed2 w a b _ _).2.later g1
  go_wp2_with fail
  refine (cb _).mono ?_
  rintro e w2 ⟨rfl, g2⟩
  go_wp2
  go_ret
  exact ⟨rfl, (((Below.refl _ w).alloc (Nat.le_refl _) _).alloc (by simp) _).trans ((g1.trans (g2.mono g1.size)).mono (by simp; omega))⟩
end Go.Proofs.YtbelkhkllneifaaGreatDoor
namespace Go.Proofs.YtbelkhkllneifaaGreatDoor
open Go.RowKit
structure Kn.C where
 k : Int
 null : Bool
abbrev Kn.C.val (c : Kn.C) : Value := .agg #[.int .i64 c.k, .bool c.null]
structure Kn.Cols (w : World) (v : Value) (l : List Kn.C) : Prop where
 is : ∃ a c, v = .slice a l.length c ∧ (l = [] ∨ ∃ b o, a = some ⟨b, o, none⟩ ∧ b < w.heap.size ∧ l.length ≤ 9223372036854775807 ∧
  ∀ i x, l[i]? = some x → w.cell? ⟨b, o + i * 2, none⟩ = some (.int .i64 x.k) ∧ w.cell? ⟨b, o + i * 2 + 1, none⟩ = some (.bool x.null))
structure Kn.Vals (w : World) (v : Value) (l : List Kn.V) : Prop where
 is : ∃ a c, v = .slice a l.length c ∧ (l = [] ∨ ∃ b o, a = some ⟨b, o, none⟩ ∧ b < w.heap.size ∧ l.length ≤ 9223372036854775807 ∧ ∀ i x, l[i]? = some x → Kn.At w b (o + i * 3) x)
theorem Kn.Cols.later {w w' : World} {v : Value} {l : List Kn.C} (h : Kn.Cols w v l) (g : Below w.heap.size w w') : Kn.Cols w' v l := by
 obtain ⟨a, c, rfl, h⟩ := h
 refine ⟨a, c, rfl, ?_⟩
 rcases h with h | ⟨b, o, rfl, hlt, hm, h⟩
 ·exact .inl h
 ·refine .inr ⟨b, o, rfl, Nat.lt_of_lt_of_le hlt g.size, hm, fun i x hx => ?_⟩
  exact ⟨(g.cell (p := ⟨b, o + i * 2, none⟩) hlt).trans (h i x hx).1, (g.cell (p := ⟨b, o + i * 2 + 1, none⟩) hlt).trans (h i x hx).2⟩
theorem Kn.Vals.later {w w' : World} {v : Value} {l : List Kn.V} (h : Kn.Vals w v l) (g : Below w.heap.size w w') : Kn.Vals w' v l := by
 obtain ⟨a, c, rfl, h⟩ := h
 refine ⟨a, c, rfl, ?_⟩
 rcases h with h | ⟨b, o, rfl, hlt, hm, h⟩
 ·exact .inl h
 ·exact .inr ⟨b, o, rfl, Nat.lt_of_lt_of_le hlt g.size, hm, fun i x hx => (h i x hx).later g⟩
def Kn.C.good (c : Kn.C) : Bool := !((c.k != 1) && (c.k != 2))
def Kn.headOk : List Kn.C → Bool
 | [] => true
 | c :: _ => !c.null
def Kn.right (l : List Kn.C) : Bool := decide (1 ≤ l.length) && decide (l.length ≤ 6) && Kn.headOk l && l.all Kn.C.good
def Kn.fits (c : Kn.C) (v : Kn.V) : Bool :=
 if v.null = true then c.null && (v.n == 0) && (v.s.toList == (⟨#[]⟩ : ByteArray).toList)
 else if c.k = 1 then v.s.toList == (⟨#[]⟩ : ByteArray).toList
 else (v.n == 0) && decide (v.s.size ≤ 64)
set_option maxRecDepth 100000 in
set_option maxHeartbeats 1000000 in
theorem Kn.fitsColumn_c (c : Kn.C) (v : Kn.V) (w : World) :
 Calls Tryz.prog 90 #[c.val, v.val] w fun e w' => e = .returned (.bool (Kn.fits c v)) ∧ Below w.heap.size w w' := by
 obtain ⟨ck, cn⟩ := c
 obtain ⟨vn, vi, vs⟩ := v
 unfold Kn.C.val Kn.V.val
 have hk : ((ck == 1) = true ∧ ck = 1) ∨ ((ck == 1) = false ∧ ck ≠ 1) := by
  by_cases h : ck = 1
  ·left; exact ⟨by rw [h]; rfl, h⟩
  ·right; exact ⟨by rw [beq_eq_false_iff_ne]; exact h, h⟩
 have he : (⟨#[]⟩ : ByteArray).toList = [] := by rw [ByteArray.toList_eq]
 generalize hB : Kn.fits ⟨ck, cn⟩ ⟨vn, vi, vs⟩ = B
 have HB := Lib.hid hB
 clear hB
 cases vn
 ·rcases hk with ⟨hk, rfl⟩ | ⟨hk, hk2⟩
  all_goals
   go_enter Tryz.func90, Tryz.ntmps90
   go_wp2
  all_goals
   go_ret
   refine ⟨?_, ((Below.refl _ w).alloc (Nat.le_refl _) _).alloc (by simp) _⟩
   rw [← HB.out]
   simp_all [Kn.fits]
   try omega
 ·cases cn
  all_goals
   go_enter Tryz.func90, Tryz.ntmps90
   go_wp2
  all_goals
   go_ret
   refine ⟨?_, ((Below.refl _ w).alloc (Nat.le_refl _) _).alloc (by simp) _⟩
   rw [← HB.out]
   simp_all [Kn.fits]
   try omega
theorem Kn.retb {x y : Bool} (h : x = y) : Ending.returned (.bool x) = Ending.returned (.bool y) := by rw [h]
theorem Kn.right_long (l : List Kn.C) (h : 6 < l.length) : Kn.right l = false := by
 unfold Kn.right
 rw [decide_eq_false (p := l.length ≤ 6) (by omega)]
 simp
theorem Kn.right_null (l : List Kn.C) (x : Kn.C) (h : l[0]? = some x) (hn : x.null = true) : Kn.right l = false := by
 cases l with
 | nil => cases h
 | cons y t =>
   obtain rfl : y = x := by simpa using h
   simp [Kn.right, Kn.headOk, hn]
theorem Kn.right_bad (l : List Kn.C) (k : Nat) (x : Kn.C) (h : l[k]? = some x) (hb : x.good = false) : Kn.right l = false := by
 have : l.all Kn.C.good = false := by
  rw [Bool.eq_false_iff]
  intro e
  have := List.all_eq_true.1 e x (List.mem_of_getElem? h)
  rw [hb] at this; cases this
 unfold Kn.right
 rw [this]
 simp
theorem Kn.all_step (l : List Kn.C) (k : Nat) (x : Kn.C) (h : l[k]? = some x) (hg : x.good = true) (ha : (l.take k).all Kn.C.good = true) : (l.take (k + 1)).all Kn.C.good = true := by
 rw [List.take_add_one, h, List.all_append, ha]
 simp [hg]
theorem Kn.right_good (l : List Kn.C) (x : Kn.C) (h : l[0]? = some x) (hn : x.null = false) (h6 : l.length ≤ 6) (ha : (l.take l.length).all Kn.C.good = true) : Kn.right l = true := by
 cases l with
 | nil => cases h
 | cons y t =>
   obtain rfl : y = x := by simpa using h
   rw [List.take_length] at ha
   have e : Kn.headOk (y :: t) = true := by show (!y.null) = true; rw [hn]; rfl
   unfold Kn.right
   rw [ha, e, decide_eq_true (by simp), decide_eq_true h6]
   rfl
theorem Kn.good_ways (x : Kn.C) : (x.good = true ∧ (x.k != 1) = false) ∨ (x.good = true ∧ (x.k != 1) = true ∧ (x.k != 2) = false) ∨ (x.good = false ∧ (x.k != 1) = true ∧ (x.k != 2) = true) := by
 unfold Kn.C.good
 cases (x.k != 1) <;> cases (x.k != 2) <;> simp
set_option maxRecDepth 100000 in
set_option maxHeartbeats 1000000 in
theorem Kn.right_c (v : Value) (l : List Kn.C) (w : World) (h : Kn.Cols w v l) :
 Calls Tryz.prog 33 #[v] w fun e w' => e = .returned (.bool (Kn.right l)) ∧ Below w.heap.size w w' := by
 obtain ⟨a, c, rfl, h⟩ := h
 have h' : l = [] ∨ ∃ x, l[0]? = some x := by cases l with
  | nil => exact .inl rfl
  | cons x t => exact .inr ⟨x, rfl⟩
 rcases h' with rfl | ⟨x0, hx0⟩
 ·go_enter Tryz.func33, Tryz.ntmps33
  go_wp2
  go_ret
  exact ⟨rfl, Below.refl _ _⟩
 ·have hpos : 0 < l.length := (List.getElem?_eq_some_iff.1 hx0).1
  rcases h with rfl | ⟨b, o, rfl, hlt, hm, hc⟩
  ·cases hx0
  ·have d1 : ¬ (l.length : Int) < 1 := by omega
   by_cases h6 : 6 < l.length
   ·have d2 : (6 : Int) < (l.length : Int) := by omega
    rw [Kn.right_long l h6]
    go_enter Tryz.func33, Tryz.ntmps33
    go_wp2
    go_ret
    exact ⟨rfl, Below.refl _ _⟩
   ·have d2 : ¬ (6 : Int) < (l.length : Int) := by omega
    have d3 : (0 : Int) < (l.length : Int) := by omega
    obtain ⟨c0, c1⟩ := hc 0 x0 hx0
    rw [Nat.zero_mul, Nat.add_zero] at c0 c1
    cases hn : x0.null
    ·rw [hn] at c1
     have hR := Kn.right_good l x0 hx0 hn (by omega)
     generalize hB : Kn.right l = B
     have HB := Lib.hid hB
     rw [hB] at hR
     clear hB
     go_enter Tryz.func33, Tryz.ntmps33
     go_wp2_with fail
     go_loopw [21] (fun i wr => ∃ k : Nat, k ≤ l.length ∧ i = .int .i64 k ∧ (l.take k).all Kn.C.good = true ∧ Below w.heap.size w wr) (fun i _ => l.length - (intOf i).toNat)
     case atStart => exact ⟨0, by omega, rfl, rfl, Below.refl _ _⟩
     case round =>
      obtain ⟨k, hk, rfl, hg, hb⟩ := hrel
      by_cases hkl : k < l.length
      ·have hx := List.getElem?_eq_getElem hkl
       generalize l[k] = x at hx
       have e0 := (hb.cell (p := ⟨b, o + k * 2, none⟩) hlt).trans (hc k x hx).1
       have e1 := (hb.cell (p := ⟨b, o + k * 2 + 1, none⟩) hlt).trans (hc k x hx).2
       have dk : (k : Int) < (l.length : Int) := by omega
       rcases Kn.good_ways x with ⟨g, g1⟩ | ⟨g, g1, g2⟩ | ⟨g, g1, g2⟩
       ·go_wp2
        go_roundw
        case rel => exact ⟨k + 1, by omega, by simp, Kn.all_step l k x hx g hg, hb.alloc hb.size _⟩
        case measure => simp [intOf]; omega
       ·go_wp2
        go_roundw
        case rel => exact ⟨k + 1, by omega, by simp, Kn.all_step l k x hx g hg, hb.alloc hb.size _⟩
        case measure => simp [intOf]; omega
       ·go_wp2
        go_ret
        exact ⟨Kn.retb ((Kn.right_bad l k x hx g).symm.trans HB.out), hb.alloc hb.size _⟩
      ·obtain rfl : k = l.length := by omega
       have dk : ¬ (l.length : Int) < (l.length : Int) := by omega
       go_wp2
       go_ret
       exact ⟨Kn.retb (hR hg).symm, hb⟩
    ·rw [hn] at c1
     rw [Kn.right_null l x0 hx0 hn]
     go_enter Tryz.func33, Tryz.ntmps33
     go_wp2
     go_ret
     exact ⟨rfl, Below.refl _ _⟩
end Go.Proofs.YtbelkhkllneifaaGreatDoor
namespace Go.Proofs.YtbelkhkllneifaaGreatDoor
open Go.RowKit
def Kn.fitsAll : List Kn.C → List Kn.V → Bool
 | c :: cs, v :: vs => Kn.fits c v && Kn.fitsAll cs vs
 | _, _ => true
def Kn.fitsE (s : List Kn.C) (r : List Kn.V) : Int := if Kn.right s = true then (if r.length = s.length then (if Kn.fitsAll s r = true then 0 else 6) else 7) else 4
def Kn.keyE (s : List Kn.C) (k : Kn.V) : Int := if Kn.right s = true then (match s with | [] => 4 | c :: _ => if Kn.fits c k = true then 0 else 6) else 4
theorem Kn.fitsAll_step (s : List Kn.C) (r : List Kn.V) (k : Nat) (c : Kn.C) (v : Kn.V) (hc : s[k]? = some c) (hv : r[k]? = some v) : Kn.fitsAll (s.drop k) (r.drop k) = (Kn.fits c v && Kn.fitsAll (s.drop (k + 1)) (r.drop (k + 1))) := by
 obtain ⟨h1, rfl⟩ := List.getElem?_eq_some_iff.1 hc
 obtain ⟨h2, rfl⟩ := List.getElem?_eq_some_iff.1 hv
 rw [List.drop_eq_getElem_cons h1, List.drop_eq_getElem_cons h2]
 rfl
theorem Kn.fitsAll_end (s : List Kn.C) (r : List Kn.V) (k : Nat) (h : ¬ k < s.length) : Kn.fitsAll (s.drop k) (r.drop k) = true := by
 rw [List.drop_eq_nil_of_le (by omega)]
 rfl
theorem Kn.fitsE_bad {s : List Kn.C} {r : List Kn.V} (h : Kn.right s = false) : Kn.fitsE s r = 4 := by unfold Kn.fitsE; rw [h]; rfl
theorem Kn.fitsE_len {s : List Kn.C} {r : List Kn.V} (h : Kn.right s = true) (hn : r.length ≠ s.length) : Kn.fitsE s r = 7 := by unfold Kn.fitsE; rw [h, if_pos rfl, if_neg hn]
theorem Kn.fitsE_kind {s : List Kn.C} {r : List Kn.V} (h : Kn.right s = true) (hn : r.length = s.length) (hf : Kn.fitsAll s r = false) : Kn.fitsE s r = 6 := by unfold Kn.fitsE; rw [h, if_pos rfl, if_pos hn, hf]; rfl
theorem Kn.fitsE_ok {s : List Kn.C} {r : List Kn.V} (h : Kn.right s = true) (hn : r.length = s.length) (hf : Kn.fitsAll s r = true) : Kn.fitsE s r = 0 := by unfold Kn.fitsE; rw [h, if_pos rfl, if_pos hn, hf]; rfl
theorem Kn.right_len {s : List Kn.C} (h : Kn.right s = true) : 1 ≤ s.length ∧ s.length ≤ 6 := by
 unfold Kn.right at h
 simp only [Bool.and_eq_true, decide_eq_true_iff] at h
 omega
set_option maxHeartbeats 1000000 in
set_option maxRecDepth 100000 in
theorem Kn.fits_c (v u : Value) (s : List Kn.C) (r : List Kn.V) (w : World) (hs : Kn.Cols w v s) (hr : Kn.Vals w u r) :
 Calls Tryz.prog 63 #[v, u] w fun e w' => e = .returned (.int .i64 (Kn.fitsE s r)) ∧ Below w.heap.size w w' := by
 have cR := Kn.right_c v s
 cases hR : Kn.right s
 ·rw [Kn.fitsE_bad hR]
  rw [hR] at cR
  go_enter Tryz.func63, Tryz.ntmps63
  go_wp2_with fail
  refine (cR _ hs).mono ?_
  rintro e w1 ⟨rfl, g1⟩
  go_wp2
  go_ret
  exact ⟨rfl, g1⟩
 ·rw [hR] at cR
  have hl := Kn.right_len hR
  by_cases hn : r.length = s.length
  ·have k0 := fun hf => Kn.fitsE_ok (s := s) (r := r) hR hn hf
   have k6 := fun hf => Kn.fitsE_kind (s := s) (r := r) hR hn hf
   generalize hE : Kn.fitsE s r = E at *
   have HE := Lib.hid hE
   clear hE
   have hs0 := hs
   obtain ⟨a, c, rfl, h⟩ := hs
   obtain ⟨a2, c2, rfl, h2⟩ := hr
   rcases h with rfl | ⟨b, o, rfl, hlt, hm, hc⟩
   ·simp at hl
   ·rcases h2 with rfl | ⟨b2, o2, rfl, hlt2, hm2, hc2⟩
    ·simp at hn; omega
    ·rw [hn]
     go_enter Tryz.func63, Tryz.ntmps63
     go_wp2_with fail
     refine (cR _ hs0).mono ?_
     rintro e w1 ⟨rfl, g1⟩
     have hz : ((s.length : Int) != (s.length : Int)) = false := by simp
     go_wp2_with fail
     go_loopw [17] (fun i wr => ∃ k : Nat, k ≤ s.length ∧ i = .int .i64 k ∧ Kn.fitsAll s r = Kn.fitsAll (s.drop k) (r.drop k) ∧ Below w.heap.size w wr) (fun i _ => s.length - (intOf i).toNat)
     case atStart => exact ⟨0, by omega, rfl, rfl, g1⟩
     case round =>
      obtain ⟨k, hk, rfl, hg, hb⟩ := hrel
      have HG := Lib.hid hg
      clear hg
      by_cases hkl : k < s.length
      ·have hx := List.getElem?_eq_getElem hkl
       have hy := List.getElem?_eq_getElem (show k < r.length by omega)
       generalize s[k] = x at hx
       generalize r[k] = y at hy
       have HS := Lib.hid (Kn.fitsAll_step s r k x y hx hy)
       have e0 := (hb.cell (p := ⟨b, o + k * 2, none⟩) hlt).trans (hc k x hx).1
       have e1 := (hb.cell (p := ⟨b, o + k * 2 + 1, none⟩) hlt).trans (hc k x hx).2
       have hy2 := hc2 k y hy
       have f0 := (hb.cell (p := ⟨b2, o2 + k * 3, none⟩) hlt2).trans hy2.c0
       have f1 := (hb.cell (p := ⟨b2, o2 + k * 3 + 1, none⟩) hlt2).trans hy2.c1
       have f2 := (hb.cell (p := ⟨b2, o2 + k * 3 + 2, none⟩) hlt2).trans hy2.c2
       have dk : (k : Int) < (s.length : Int) := by omega
       have dk0 : (0 : Int) ≤ (k : Int) := by omega
       have hltr : b < wr.heap.size := Nat.lt_of_lt_of_le hlt hb.size
       have hlt2r : b2 < wr.heap.size := Nat.lt_of_lt_of_le hlt2 hb.size
       have cF := Kn.fitsColumn_c x y
       go_wp2_with fail
       have gN : Below wr.heap.size wr (wr.alloc (.cells #[.int .i64 x.k, .bool x.null] 76)) := (Below.refl _ _).alloc (Nat.le_refl _) _
       have n0 := Kn.cell_new wr #[.int .i64 x.k, .bool x.null] 76 0 _ rfl
       have n1 := Kn.cell_new wr #[.int .i64 x.k, .bool x.null] 76 1 _ rfl
       have F0 := (gN.cell (p := ⟨b2, o2 + k * 3, none⟩) hlt2r).trans f0
       have F1 := (gN.cell (p := ⟨b2, o2 + k * 3 + 1, none⟩) hlt2r).trans f1
       have F2 := (gN.cell (p := ⟨b2, o2 + k * 3 + 2, none⟩) hlt2r).trans f2
       have hbN := hb.trans (gN.mono hb.size)
       generalize wr.alloc (.cells #[.int .i64 x.k, .bool x.null] 76) = wn at n0 n1 F0 F1 F2 hbN ⊢
       clear gN e0 e1 f0 f1 f2 hy2 hltr hlt2r
       refine wp_region_still_tail 5 (by kernel_rfl) (by kernel_rfl) ?_
       simp only [List.take_succ_cons, List.take_zero, List.drop_succ_cons, List.drop_zero]
       change wpStill _ _ (World.drew _) (fun a' => wpList _ _ _ _ a' (World.drew _)) _ _
       still_step
       still_step
       still_step
       still_step
       still_step
       refine wpStill_nil ?_
       have HK := Lib.hid k6
       clear k6 k0
       cases hf : Kn.fits x y
       ·rw [hf] at cF
        have HF := Lib.hid hf
        clear hf
        go_wp2_with fail
        refine (cF _).mono ?_
        rintro e w2 ⟨rfl, g2⟩
        go_wp2
        go_ret
        have he := HK.out (by rw [HG.out, HS.out, HF.out]; rfl)
        subst he
        exact ⟨rfl, hbN.drew.trans (g2.mono hbN.size)⟩
       ·rw [hf] at cF
        have HF := Lib.hid hf
        clear hf
        go_wp2_with fail
        refine (cF _).mono ?_
        rintro e w2 ⟨rfl, g2⟩
        go_wp2
        go_roundw
        case rel => exact ⟨k + 1, by omega, by simp, by rw [HG.out, HS.out, HF.out]; rfl, hbN.drew.trans (g2.mono hbN.size)⟩
        case measure => simp [intOf]; omega
      ·obtain rfl : k = s.length := by omega
       have dk : ¬ (s.length : Int) < (s.length : Int) := by omega
       have he := k0 (HG.out.trans (Kn.fitsAll_end s r _ (by omega)))
       clear k6 k0
       go_wp2
       go_ret
       subst he
       exact ⟨rfl, hb⟩
  ·rw [Kn.fitsE_len hR hn]
   obtain ⟨a2, c2, rfl, h2⟩ := hr
   have hs0 := hs
   obtain ⟨a, c, rfl, h⟩ := hs
   have hz : ((r.length : Int) != (s.length : Int)) = true := by rw [bne_iff_ne]; omega
   go_enter Tryz.func63, Tryz.ntmps63
   go_wp2_with fail
   refine (cR _ hs0).mono ?_
   rintro e w1 ⟨rfl, g1⟩
   go_wp2
   go_ret
   exact ⟨rfl, g1⟩
theorem Kn.right_head {s : List Kn.C} (h : Kn.right s = true) : ∃ x t, s = x :: t ∧ x.null = false ∧ x.good = true := by
 cases s with
 | nil => cases h
 | cons x t =>
   unfold Kn.right at h
   simp only [Bool.and_eq_true, Kn.headOk, List.all_cons, Bool.not_eq_true'] at h
   exact ⟨x, t, rfl, h.1.2, h.2.1⟩
end Go.Proofs.YtbelkhkllneifaaGreatDoor
namespace Go.Proofs.YtbelkhkllneifaaGreatDoor
open Go.RowKit
def Kn.isK (k : Int) (v : Kn.V) : Bool :=
 if v.null = true then (v.n == 0) && (v.s.toList == (⟨#[]⟩ : ByteArray).toList)
 else if k = 1 then v.s.toList == (⟨#[]⟩ : ByteArray).toList
 else (k == 2) && ((v.n == 0) && decide (v.s.size ≤ 64))
theorem Kn.isK_fits (c : Kn.C) (v : Kn.V) (h : c.good = true) : Kn.fits c v = (Kn.isK c.k v && !(v.null && !c.null)) := by
 obtain ⟨ck, cn⟩ := c
 obtain ⟨vn, vi, vs⟩ := v
 have hk : ck = 1 ∨ ck = 2 := by
  unfold Kn.C.good at h
  by_cases h1 : ck = 1
  ·exact .inl h1
  ·by_cases h2 : ck = 2
   ·exact .inr h2
   ·have e1 : (ck != 1) = true := by rw [bne_iff_ne]; exact h1
    have e2 : (ck != 2) = true := by rw [bne_iff_ne]; exact h2
    simp only [e1, e2] at h
    cases h
 unfold Kn.fits Kn.isK
 rcases hk with rfl | rfl <;> cases vn <;> cases cn <;> simp
end Go.Proofs.YtbelkhkllneifaaGreatDoor
namespace Go.Proofs.YtbelkhkllneifaaGreatDoor.Ty
def form (n : Nat) : Nat := if n < 64 then 0 else if n < 16384 then 1 else if n < 1073741824 then 2 else 3
def after : Nat → Nat
 | 0 => 0
 | 1 => 1
 | 2 => 3
 | _ => 8
def low : Nat → Nat → List UInt8
 | 0, _ => []
 | k + 1, n => UInt8.ofNat (n / 256 ^ k % 256) :: low k n
def head (n : Nat) : UInt8 := UInt8.ofNat (64 * form n + (if form n = 3 then 0 else n / 256 ^ after (form n)))
def encU (n : Nat) : List UInt8 := head n :: low (after (form n)) n
theorem form_le (n : Nat) : form n ≤ 3 := by unfold form; (repeat' split) <;> omega
theorem form_is (n : Nat) : (n < 64 ∧ form n = 0) ∨ (¬ n < 64 ∧ n < 16384 ∧ form n = 1) ∨ (¬ n < 16384 ∧ n < 1073741824 ∧ form n = 2) ∨ (¬ n < 1073741824 ∧ form n = 3) := by
 unfold form; (repeat' split) <;> omega
theorem low_length (k n : Nat) : (low k n).length = k := by induction k with
 | zero => rfl
 | succ k ih => simp [low, ih]
theorem or_head : ∀ (f : Fin 4) (x : Fin 64), (64 * f.val ||| x.val) = 64 * f.val + x.val := by decide
theorem or_u8 (f x : Nat) (hf : f < 4) (hx : x < 64) : bits .or .u8 ((64 * f : Nat) : Int) (x : Int) = ((64 * f + x : Nat) : Int) := by
 have h := (bits_nat .u8 8 (by decide) wraps_u8 (64 * f) x (by omega) (by omega)).2
 rw [h, or_head ⟨f, hf⟩ ⟨x, hx⟩]
theorem toNat_ofNat8 (n : Nat) (h : n < 256) : (UInt8.ofNat n).toNat = n := by simp [UInt8.toNat_ofNat']; omega
def U64 (n : Nat) : Prop := n < 2 ^ 64
theorem head_of (n f x : Nat) (C X : Int) (hC : C = ((64 * f : Nat) : Int)) (hX : X = (x : Int)) (hf : f < 4) (hx : x < 64) (hh : head n = UInt8.ofNat (64 * f + x)) : bits .or .u8 C X = ((head n).toNat : Int) := by
 rw [hC, hX, or_u8 f x hf hx, hh, toNat_ofNat8 _ (by omega)]
theorem head0 (n : Nat) (h : form n = 0) : bits .or .u8 0 ((n : Int) % 256) = ((head n).toNat : Int) := by
 have hb := form_is n
 exact head_of n 0 n _ _ rfl (by omega) (by omega) (by omega) (by unfold head; simp [h, after])
theorem head1 (n : Nat) (h : form n = 1) : bits .or .u8 64 ((n : Int) / 256 % 256) = ((head n).toNat : Int) := by
 have hb := form_is n
 exact head_of n 1 (n / 256) _ _ rfl (by omega) (by omega) (by omega) (by unfold head; simp [h, after])
theorem head2 (n : Nat) (h : form n = 2) : bits .or .u8 128 ((n : Int) / 16777216 % 256) = ((head n).toNat : Int) := by
 have hb := form_is n
 exact head_of n 2 (n / 16777216) _ _ rfl (by omega) (by omega) (by omega) (by unfold head; simp [h, after])
theorem head3 (n : Nat) (h : form n = 3) (hn : U64 n) : bits .or .u8 192 ((n : Int) / 18446744073709551616 % 256) = ((head n).toNat : Int) := by
 unfold U64 at hn
 exact head_of n 3 0 _ _ rfl (by omega) (by omega) (by omega) (by unfold head; simp [h])
theorem low_byte (n k : Nat) : ((n : Int) / 2 ^ (8 * k) % 256) = ((UInt8.ofNat (n / 256 ^ k % 256)).toNat : Int) := by
 rw [toNat_ofNat8 _ (Nat.mod_lt _ (by omega))]
 have e : (2 : Int) ^ (8 * k) = ((256 ^ k : Nat) : Int) := by
  rw [Int.pow_mul, Int.natCast_pow]; rfl
 rw [e]
 simp
theorem low_succ (n k : Nat) : low (k + 1) n = UInt8.ofNat (n / 256 ^ k % 256) :: low k n := rfl
theorem encU_split (n : Nat) : encU n = [head n] ++ low (after (form n)) n := rfl
theorem encU_length (n : Nat) : (encU n).length = 1 + after (form n) := by simp [encU, low_length]; omega
theorem after_le (n : Nat) : after (form n) ≤ 8 := by
 rcases form_is n with ⟨_, h⟩ | ⟨_, _, h⟩ | ⟨_, _, h⟩ | ⟨_, h⟩ <;> rw [h] <;> decide
def zig (n : Int) : Int := if 0 ≤ n then 2 * n else -2 * n - 1
def zag (n : Int) : Int := if n % 2 = 1 then -(n / 2) - 1 else n / 2
def I64 (n : Int) : Prop := -9223372036854775808 ≤ n ∧ n ≤ 9223372036854775807
theorem zig_nonneg (n : Int) : 0 ≤ zig n := by unfold zig; split <;> omega
theorem zig_u64 {n : Int} (h : I64 n) : U64 (zig n).toNat := by unfold zig U64; unfold I64 at h; split <;> omega
theorem zag_i64 {n : Nat} (h : U64 n) : I64 (zag n) := by unfold zag I64; unfold U64 at h; split <;> omega
theorem zag_zig (n : Int) : zag (zig n) = n := by unfold zag zig; (repeat' split) <;> omega
theorem zig_zag {n : Int} (h : 0 ≤ n) : zig (zag n) = n := by unfold zag zig; (repeat' split) <;> omega
theorem encU_len9 (n : Nat) : (encU n).length ≤ 9 := by rw [encU_length]; have := after_le n; omega
end Go.Proofs.YtbelkhkllneifaaGreatDoor.Ty
namespace Go.Proofs.YtbelkhkllneifaaGreatDoor.Ty
theorem wrapu64 (n : Int) (h0 : 0 ≤ n) (h1 : n < 2 ^ 64) : IntKind.u64.wrap n = n := by rw [IntKind.wrap_u64]; omega
def pv (l : List UInt8) : Nat → Nat
 | 0 => 0
 | 1 => (l.getD 0 0).toNat % 64
 | k + 2 => pv l (k + 1) * 256 + (l.getD (k + 1) 0).toNat
def small : Nat → Nat
 | 0 => 0
 | 1 => 64
 | 2 => 16384
 | _ => 1073741824
def num (l : List UInt8) : Nat × Nat × Nat :=
 match l with
 | [] => (0, 0, 2)
 | b :: r => if 192 < b.toNat then (0, 0, 5) else if (b :: r).length < 1 + after (b.toNat / 64) then (0, 0, 2) else
   if pv (b :: r) (1 + after (b.toNat / 64)) < small (b.toNat / 64) then (0, 0, 5) else (pv (b :: r) (1 + after (b.toNat / 64)), 1 + after (b.toNat / 64), 0)
theorem pv_succ (l : List UInt8) (k : Nat) (hk : 1 ≤ k) : pv l (k + 1) = pv l k * 256 + (l.getD k 0).toNat := by
 match k, hk with
 | k + 1, _ => rfl
theorem pv_lt (l : List UInt8) : ∀ k, pv l (k + 1) < 64 * 256 ^ k
 | 0 => by simp [pv]; omega
 | k + 1 => by
   have := pv_lt l k
   have h2 := (l.getD (k + 1) 0).toNat_lt
   rw [pv_succ l (k + 1) (by omega), Nat.pow_succ]
   omega
theorem pv_lt9 (l : List UInt8) (h : (l.getD 0 0).toNat % 64 = 0) : ∀ k, pv l (k + 1) < 256 ^ k
 | 0 => by simp [pv]; simpa using h
 | k + 1 => by
   have := pv_lt9 l h k
   have h2 := (l.getD (k + 1) 0).toNat_lt
   rw [pv_succ l (k + 1) (by omega), Nat.pow_succ]
   omega
theorem or_byte (p b : Nat) (hp : p < 72057594037927936) (hb : b < 256) : bits .or .u64 ((p * 256 : Nat) : Int) (b : Int) = ((p * 256 + b : Nat) : Int) := by
 have h := (bits_nat .u64 64 (by decide) wrapu64 (p * 256) b (by omega) (by omega)).2
 rw [h]
 have := Nat.two_pow_add_eq_or_of_lt (i := 8) (b := b) (by omega) p
 rw [Nat.mul_comm p 256]
 exact congrArg Int.ofNat this.symm
def txt (l : List UInt8) (most : Int) : List UInt8 × Nat × Nat :=
 if (num l).2.2 ≠ 0 then ([], 0, (num l).2.2) else if most < 0 ∨ most < ((num l).1 : Int) then ([], 0, 3) else
  if l.length - (num l).2.1 < (num l).1 then ([], 0, 2) else ((l.drop (num l).2.1).take (num l).1, (num l).2.1 + (num l).1, 0)
theorem num_is (l : List UInt8) (h : 0 < l.length) : num l = if 192 < (l.getD 0 0).toNat then (0, 0, 5) else if l.length < 1 + after ((l.getD 0 0).toNat / 64) then (0, 0, 2) else
 if pv l (1 + after ((l.getD 0 0).toNat / 64)) < small ((l.getD 0 0).toNat / 64) then (0, 0, 5) else (pv l (1 + after ((l.getD 0 0).toNat / 64)), 1 + after ((l.getD 0 0).toNat / 64), 0) := by
 cases l with
 | nil => simp at h
 | cons b r => rfl
theorem num_high {l : List UInt8} (h : 0 < l.length) (hb : 192 < (l.getD 0 0).toNat) : num l = (0, 0, 5) := by rw [num_is l h, if_pos hb]
theorem num_cut {l : List UInt8} (h : 0 < l.length) (hb : ¬ 192 < (l.getD 0 0).toNat) {f : Nat} (hf : (l.getD 0 0).toNat / 64 = f) (hl : l.length < 1 + after f) : num l = (0, 0, 2) := by rw [num_is l h, if_neg hb, hf, if_pos hl]
theorem num_less {l : List UInt8} (h : 0 < l.length) (hb : ¬ 192 < (l.getD 0 0).toNat) {f : Nat} (hf : (l.getD 0 0).toNat / 64 = f) (hl : ¬ l.length < 1 + after f) (hp : pv l (1 + after f) < small f) : num l = (0, 0, 5) := by rw [num_is l h, if_neg hb, hf, if_neg hl, if_pos hp]
theorem num_whole {l : List UInt8} (h : 0 < l.length) (hb : ¬ 192 < (l.getD 0 0).toNat) {f : Nat} (hf : (l.getD 0 0).toNat / 64 = f) (hl : ¬ l.length < 1 + after f) (hp : ¬ pv l (1 + after f) < small f) : num l = (pv l (1 + after f), 1 + after f, 0) := by rw [num_is l h, if_neg hb, hf, if_neg hl, if_neg hp]
theorem or_step (l : List UInt8) (b : UInt8) (k : Nat) (hk : 1 ≤ k) (hp : pv l k < 72057594037927936) (hb : b = l.getD k 0) :
 bits .or .u64 (IntKind.u64.wrap ((pv l k : Int) * 256)) (IntKind.u64.wrap (b.toNat : Int)) = (pv l (k + 1) : Int) := by
 have h2 := b.toNat_lt
 rw [wrapu64 _ (by omega) (by omega), wrapu64 _ (by omega) (by omega), pv_succ l k hk, ← hb]
 exact or_byte (pv l k) b.toNat hp (by omega)
theorem pv_small4 (l : List UInt8) (k : Nat) (h1 : 1 ≤ k) (h : k ≤ 4) : pv l k < 72057594037927936 := by
 have := pv_lt l (k - 1)
 rw [show k - 1 + 1 = k by omega] at this
 have h2 : 256 ^ (k - 1) ≤ 256 ^ 3 := Nat.pow_le_pow_right (by omega) (by omega)
 have h3 : (256 : Nat) ^ 3 = 16777216 := by decide
 omega
theorem pv_small8 (l : List UInt8) (h0 : (l.getD 0 0).toNat % 64 = 0) (k : Nat) (h1 : 1 ≤ k) (h : k ≤ 8) : pv l k < 72057594037927936 := by
 have := pv_lt9 l h0 (k - 1)
 rw [show k - 1 + 1 = k by omega] at this
 have h2 : 256 ^ (k - 1) ≤ 256 ^ 7 := Nat.pow_le_pow_right (by omega) (by omega)
 have h3 : (256 : Nat) ^ 7 = 72057594037927936 := by decide
 omega
theorem num_cases (l : List UInt8) : (num l).2.2 = 0 ∧ l ≠ [] ∧ (∃ f, f ≤ 3 ∧ 64 * f ≤ (l.getD 0 0).toNat ∧ (l.getD 0 0).toNat < 64 * f + 64 ∧ (l.getD 0 0).toNat ≤ 192 ∧ num l = (pv l (1 + after f), 1 + after f, 0) ∧ 1 + after f ≤ l.length ∧ small f ≤ pv l (1 + after f)) ∨
 ((num l).2.2 = 2 ∨ (num l).2.2 = 5) ∧ (num l).1 = 0 ∧ (num l).2.1 = 0 := by
 by_cases h0 : 0 < l.length
 ·by_cases h1 : 192 < (l.getD 0 0).toNat
  ·right; rw [num_high h0 h1]; simp
  ·obtain ⟨f, hf⟩ : ∃ f, (l.getD 0 0).toNat / 64 = f := ⟨_, rfl⟩
   by_cases h2 : l.length < 1 + after f
   ·right; rw [num_cut h0 h1 hf h2]; simp
   ·by_cases h3 : pv l (1 + after f) < small f
    ·right; rw [num_less h0 h1 hf h2 h3]; simp
    ·left
     have e := num_whole h0 h1 hf h2 h3
     exact ⟨by rw [e], by intro e; subst e; simp at h0, f, by omega, by omega, by omega, by omega, e, by omega, by omega⟩
 ·right
  have : l = [] := List.eq_nil_of_length_eq_zero (by omega)
  subst this
  simp [num]
theorem num_u64 (l : List UInt8) : U64 (num l).1 := by
 rcases num_cases l with ⟨_, _, f, hf, h1, h2, h3, e, _, _⟩ | ⟨_, h, _⟩
 ·rw [e]
  unfold U64
  rcases (by omega : f = 0 ∨ f = 1 ∨ f = 2 ∨ f = 3) with rfl | rfl | rfl | rfl
  ·have := pv_lt l 0; show pv l (0 + 1) < 2 ^ 64; omega
  ·have := pv_lt l 1; show pv l (1 + 1) < 2 ^ 64; omega
  ·have := pv_lt l 3; show pv l (3 + 1) < 2 ^ 64; omega
  ·have := pv_lt9 l (by omega) 8; show pv l (8 + 1) < 2 ^ 64; omega
 ·rw [h]; unfold U64; omega
theorem num_size (l : List UInt8) : (num l).2.1 ≤ l.length := by
 rcases num_cases l with ⟨_, _, f, hf, h1, h2, h3, e, hl, _⟩ | ⟨_, _, h⟩
 ·rw [e]; exact hl
 ·rw [h]; omega
theorem txt_bad {l : List UInt8} {most : Int} (h : (num l).2.2 ≠ 0) : txt l most = ([], 0, (num l).2.2) := by unfold txt; rw [if_pos h]
theorem txt_long {l : List UInt8} {most : Int} (h : (num l).2.2 = 0) (h2 : most < 0 ∨ most < ((num l).1 : Int)) : txt l most = ([], 0, 3) := by unfold txt; rw [if_neg (by omega), if_pos h2]
theorem txt_short {l : List UInt8} {most : Int} (h : (num l).2.2 = 0) (h2 : ¬ (most < 0 ∨ most < ((num l).1 : Int))) (h3 : l.length - (num l).2.1 < (num l).1) : txt l most = ([], 0, 2) := by unfold txt; rw [if_neg (by omega), if_neg h2, if_pos h3]
theorem txt_whole {l : List UInt8} {most : Int} (h : (num l).2.2 = 0) (h2 : ¬ (most < 0 ∨ most < ((num l).1 : Int))) (h3 : ¬ l.length - (num l).2.1 < (num l).1) : txt l most = ((l.drop (num l).2.1).take (num l).1, (num l).2.1 + (num l).1, 0) := by unfold txt; rw [if_neg (by omega), if_neg h2, if_neg h3]
theorem txt_size (l : List UInt8) (most : Int) : (txt l most).2.1 ≤ l.length := by
 have := num_size l
 unfold txt
 split
 ·simp
 ·split
  ·simp
  ·split
   ·simp
   ·simp only; omega
end Go.Proofs.YtbelkhkllneifaaGreatDoor.Ty
namespace Go.Proofs.YtbelkhkllneifaaGreatDoor.Ty
theorem head_is (n : Nat) : (head n).toNat = 64 * form n + (if form n = 3 then 0 else n / 256 ^ after (form n)) ∧ (form n ≠ 3 → n / 256 ^ after (form n) < 64) := by
 rcases form_is n with ⟨h1, h⟩ | ⟨_, h1, h⟩ | ⟨_, h1, h⟩ | ⟨_, h⟩
 ·have e : n / 256 ^ 0 = n := by simp
  refine ⟨?_, fun _ => by rw [h]; show n / 256 ^ 0 < 64; omega⟩
  unfold head
  rw [h, toNat_ofNat8 _ (by rw [if_neg (by omega)]; show 64 * 0 + n / 256 ^ 0 < 256; omega)]
 ·have e : (256 : Nat) ^ 1 = 256 := by decide
  refine ⟨?_, fun _ => by rw [h]; show n / 256 ^ 1 < 64; omega⟩
  unfold head
  rw [h, toNat_ofNat8 _ (by rw [if_neg (by omega)]; show 64 * 1 + n / 256 ^ 1 < 256; omega)]
 ·have e : (256 : Nat) ^ 3 = 16777216 := by decide
  refine ⟨?_, fun _ => by rw [h]; show n / 256 ^ 3 < 64; omega⟩
  unfold head
  rw [h, toNat_ofNat8 _ (by rw [if_neg (by omega)]; show 64 * 2 + n / 256 ^ 3 < 256; omega)]
 ·refine ⟨?_, fun hh => absurd h hh⟩
  unfold head
  rw [h, toNat_ofNat8 _ (by rw [if_pos rfl]; omega)]
end Go.Proofs.YtbelkhkllneifaaGreatDoor.Ty
