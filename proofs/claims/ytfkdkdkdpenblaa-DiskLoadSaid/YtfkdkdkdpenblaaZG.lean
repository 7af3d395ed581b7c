/-
  The plain mathematics of package kinds: values and their order. No program.
  Contracts of package kinds: which value is ahead.
  Contracts of the document's answers for kinds: which value is ahead.
  The plain mathematics of package ints: the four encodings of a column of numbers, what is read of bytes, there and back, in one way. No program.
  The plain mathematics of package ints, for the walks: prefixes, runs, the smallest of a prefix, differences as the program computes them. No program.
  Contracts of package ints: numbers in hand; the table of codecs; the plain writer, the writer of differences; the length of a run; the smallest one.
-/
import Derived.Test.YtfkdkdkdpenblaaRows
import GoSem.Op.String
import Derived.WalkKit
import Derived.WalkSpells
import Derived.WalkLawsBesides
import Derived.Laws.StructEq
import Derived.Lib.QuietBelow
import Derived.Deep.RegionWith
import Derived.Deep.DeepCutAuto
import Derived.BigQuiet
import Derived.StillTailTactics
import Derived.Lib.Hide
import Derived.Deep.QuietTactic
import Derived.IntWalk
import Derived.Test.YtfkdkdkdpenblaaZC
import Derived.Test.YtfkdkdkdpenblaaZE
import Derived.Test.YtfkdkdkdpenblaaZD
import Derived.Test.YtfkdkdkdpenblaaZF
namespace Go.Proofs.Ytfkdkdkdpenblaa.Kn
open Go
theorem bl_irrefl : ∀ l : List UInt8, Op.bytesLess l l = false
  | [] => rfl
  | a :: l => by simp [Op.bytesLess, bl_irrefl l]
theorem bl_total : ∀ a b : List UInt8, Op.bytesLess a b = true ∨ a = b ∨ Op.bytesLess b a = true
  | [], [] => .inr (.inl rfl)
  | [], _ :: _ => .inl rfl
  | _ :: _, [] => .inr (.inr rfl)
  | a :: x, b :: y => by
    rcases Nat.lt_trichotomy a.toNat b.toNat with h | h | h
    · left; simp [Op.bytesLess, UInt8.lt_iff_toNat_lt, h]
    · have e : a = b := UInt8.toNat_inj.1 h
      subst e
      rcases bl_total x y with g | g | g
      · left; simp [Op.bytesLess, g]
      · right; left; rw [g]
      · right; right; simp [Op.bytesLess, g]
    · right; right; simp [Op.bytesLess, UInt8.lt_iff_toNat_lt, h]
theorem bl_trans : ∀ a b c : List UInt8, Op.bytesLess a b = true → Op.bytesLess b c = true → Op.bytesLess a c = true
  | _, [], _, h, _ => by simp [Op.bytesLess] at h
  | _, _ :: _, [], _, h => by simp [Op.bytesLess] at h
  | [], _ :: _, _ :: _, _, _ => rfl
  | a :: x, b :: y, c :: z, h, k => by
    simp only [Op.bytesLess, Bool.or_eq_true, decide_eq_true_eq, Bool.and_eq_true, beq_iff_eq, UInt8.lt_iff_toNat_lt] at h k ⊢
    rcases h with h | ⟨rfl, h⟩ <;> rcases k with k | ⟨rfl, k⟩
    · left; omega
    · left; exact h
    · left; exact k
    · right; exact ⟨rfl, bl_trans x y z h k⟩
theorem bl_asymm (a b : List UInt8) (h : Op.bytesLess a b = true) : Op.bytesLess b a = false := by
  cases hb : Op.bytesLess b a with
  | false => rfl
  | true => have := bl_trans a b a h hb; rw [bl_irrefl] at this; cases this
/-- A value. -/
structure V where
  null : Bool
  n : Int
  s : ByteArray
/-- as the program has it -/
abbrev V.val (v : V) : Value := .agg #[.bool v.null, .int .i64 v.n, .string v.s]
def ncmp (a b : Int) : Int := if a < b then -1 else if b < a then 1 else 0
def lcmp (a b : List UInt8) : Int := if Op.bytesLess a b = true then -1 else if Op.bytesLess b a = true then 1 else 0
def scmp (a b : ByteArray) : Int := lcmp a.toList b.toList
def or2 (x y : Int) : Int := if x = 0 then y else x
/-- The order of values. -/
def cmp (a b : V) : Int := if a.null = true then (if b.null = true then 0 else -1) else if b.null = true then 1 else or2 (ncmp a.n b.n) (scmp a.s b.s)
/-- What a way to compare three things keeps. -/
structure Fair (x y z x' y' z' : Int) : Prop where
  xr : -1 ≤ x ∧ x ≤ 1
  yr : -1 ≤ y ∧ y ≤ 1
  zr : -1 ≤ z ∧ z ≤ 1
  xa : x' = -x
  ya : y' = -y
  za : z' = -z
  le : x ≤ 0 → y ≤ 0 → z ≤ 0
  lt : x ≤ 0 → y ≤ 0 → z = 0 → x = 0 ∧ y = 0
  ge : x ≥ 0 → y ≥ 0 → z ≥ 0
  gt : x ≥ 0 → y ≥ 0 → z = 0 → x = 0 ∧ y = 0
theorem ncmp_fair (a b c : Int) : Fair (ncmp a b) (ncmp b c) (ncmp a c) (ncmp b a) (ncmp c b) (ncmp c a) := by
  unfold ncmp
  constructor <;> (repeat' split) <;> omega
theorem bl_ne {a b : List UInt8} (h : Op.bytesLess a b = true) : Op.bytesLess b a = false ∧ a ≠ b := ⟨bl_asymm a b h, fun e => by rw [e, bl_irrefl] at h; cases h⟩
theorem lcmp_lt {a b : List UInt8} (h : Op.bytesLess a b = true) : lcmp a b = -1 ∧ lcmp b a = 1 := by simp [lcmp, h, bl_asymm a b h]
theorem lcmp_self (a : List UInt8) : lcmp a a = 0 := by simp [lcmp, bl_irrefl]
theorem lcmp_anti (a b : List UInt8) : lcmp b a = -lcmp a b ∧ -1 ≤ lcmp a b ∧ lcmp a b ≤ 1 := by
  rcases bl_total a b with h | rfl | h
  · rw [(lcmp_lt h).1, (lcmp_lt h).2]; omega
  · rw [lcmp_self]; omega
  · rw [(lcmp_lt h).1, (lcmp_lt h).2]; omega
theorem lcmp_chain (a b c : List UInt8) (h1 : lcmp a b ≤ 0) (h2 : lcmp b c ≤ 0) : lcmp a c ≤ 0 ∧ (lcmp a c = 0 → lcmp a b = 0 ∧ lcmp b c = 0) := by
  rcases bl_total a b with h | rfl | h
  · rcases bl_total b c with k | rfl | k
    · have := (lcmp_lt (bl_trans a b c h k)).1
      omega
    · rw [lcmp_self]; omega
    · have := (lcmp_lt k).2; omega
  · rw [lcmp_self]; omega
  · have := (lcmp_lt h).2; omega
theorem lcmp_fair (a b c : List UInt8) : Fair (lcmp a b) (lcmp b c) (lcmp a c) (lcmp b a) (lcmp c b) (lcmp c a) := by
  have h1 := lcmp_anti a b
  have h2 := lcmp_anti b c
  have h3 := lcmp_anti a c
  have h4 := lcmp_chain a b c
  have h5 := lcmp_chain c b a
  constructor <;> omega
theorem lex_fair {x y z x' y' z' p q r p' q' r' : Int} (h : Fair x y z x' y' z') (k : Fair p q r p' q' r') : Fair (or2 x p) (or2 y q) (or2 z r) (or2 x' p') (or2 y' q') (or2 z' r') := by
  obtain ⟨⟨h1, h2⟩, ⟨h3, h4⟩, ⟨h5, h6⟩, rfl, rfl, rfl, h10, h11, h12, h13⟩ := h
  obtain ⟨⟨k1, k2⟩, ⟨k3, k4⟩, ⟨k5, k6⟩, rfl, rfl, rfl, k10, k11, k12, k13⟩ := k
  unfold or2
  constructor <;> (repeat' split) <;> omega
theorem cmp_fair (a b c : V) : Fair (cmp a b) (cmp b c) (cmp a c) (cmp b a) (cmp c b) (cmp c a) := by
  have h := lex_fair (ncmp_fair a.n b.n c.n) (show Fair (scmp a.s b.s) (scmp b.s c.s) (scmp a.s c.s) (scmp b.s a.s) (scmp c.s b.s) (scmp c.s a.s) from lcmp_fair a.s.toList b.s.toList c.s.toList)
  unfold cmp
  cases a.null <;> cases b.null <;> cases c.null <;> simp only [Bool.false_eq_true, if_false, if_true]
  · exact h
  all_goals
    obtain ⟨⟨h1, h2⟩, ⟨h3, h4⟩, ⟨h5, h6⟩, h7, h8, h9, h10, h11, h12, h13⟩ := h
    constructor <;> omega
theorem lcmp_zero (a b : List UInt8) : lcmp a b = 0 ↔ a = b := by
  rcases bl_total a b with h | rfl | h
  · rw [(lcmp_lt h).1]; exact ⟨fun e => by omega, fun e => absurd e (bl_ne h).2⟩
  · simp [lcmp_self]
  · rw [(lcmp_lt h).2]; exact ⟨fun e => by omega, fun e => absurd e.symm (bl_ne h).2⟩
theorem ncmp_zero (a b : Int) : ncmp a b = 0 ↔ a = b := by unfold ncmp; repeat' split <;> omega
theorem or2_zero (x y : Int) : or2 x y = 0 ↔ x = 0 ∧ y = 0 := by unfold or2; split <;> omega
/-- equal, just where both are null or neither is and both fields are the same -/
def same (a b : V) : Bool := (a.null && b.null) || ((!a.null && !b.null) && a.n == b.n && a.s.toList == b.s.toList)
theorem cmp_zero (a b : V) : (cmp a b == 0) = same a b := by
  rw [Bool.eq_iff_iff, beq_iff_eq]
  unfold cmp same
  cases a.null <;> cases b.null <;> simp [or2_zero, ncmp_zero, scmp, lcmp_zero]
end Go.Proofs.Ytfkdkdkdpenblaa.Kn

namespace Go.Proofs.Ytfkdkdkdpenblaa
open Go.RowKit
theorem Kn.isNaNs_c (a : ByteArray) (w : World) : Calls Try.prog 99 #[.string a] w fun e w' => e = .returned (.bool false) ∧ w' = w := by
  go_enter Try.func99, Try.ntmps99
  go_wp2
  go_ret
  exact ⟨rfl, rfl⟩
theorem Kn.new2 (w : World) (x y : Value) (t : TypeId) (b : Nat) (hb : b = w.heap.size) : (w.alloc (.cells #[x, y] t)).drew.cell? ⟨b, 0, none⟩ = some x ∧ (w.alloc (.cells #[x, y] t)).drew.cell? ⟨b, 1, none⟩ = some y := by
  subst hb
  have h := heap_alloc_new w (.cells #[x, y] t)
  show (w.alloc (.cells #[x, y] t)).cell? ⟨w.heap.size, 0, none⟩ = some x ∧ (w.alloc (.cells #[x, y] t)).cell? ⟨w.heap.size, 1, none⟩ = some y
  unfold World.cell?
  simp only [h]
  exact ⟨rfl, rfl⟩
end Go.Proofs.Ytfkdkdkdpenblaa

namespace Go.Proofs.Ytfkdkdkdpenblaa
open Go.RowKit
theorem Kn.below_drewN {B : Nat} {w w' : World} (h : Below B w w') (n : Nat) : Below B w (w'.drewN n) := ⟨h.os, h.tape, h.output, h.size, h.block⟩
/-- The value lies in the cells from this place on. -/
structure Kn.At (w : World) (b o : Nat) (v : Kn.V) : Prop where
  c0 : w.cell? ⟨b, o, none⟩ = some (.bool v.null)
  c1 : w.cell? ⟨b, o + 1, none⟩ = some (.int .i64 v.n)
  c2 : w.cell? ⟨b, o + 2, none⟩ = some (.string v.s)
theorem Kn.At.lt {w : World} {b o : Nat} {v : Kn.V} (h : Kn.At w b o v) : b < w.heap.size := World.block_lt_of_cell? w _ h.c0
theorem Kn.At.later {w w' : World} {b o : Nat} {v : Kn.V} (h : Kn.At w b o v) (g : Below w.heap.size w w') : Kn.At w' b o v :=
  ⟨(g.cell (p := ⟨b, o, none⟩) h.lt).trans h.c0, (g.cell (p := ⟨b, o + 1, none⟩) h.lt).trans h.c1, (g.cell (p := ⟨b, o + 2, none⟩) h.lt).trans h.c2⟩
theorem Kn.cell_new (w : World) (cs : Array Value) (t : TypeId) (i : Nat) (v : Value) (h : cs[i]? = some v) : (w.alloc (.cells cs t)).cell? ⟨w.heap.size, i, none⟩ = some v := by
  have e := heap_alloc_new w (.cells cs t)
  unfold World.cell?
  simp only [e]
  exact h
theorem Kn.At.new (w : World) (v : Kn.V) (t : TypeId) : Kn.At (w.alloc (.cells #[.bool v.null, .int .i64 v.n, .string v.s] t)) w.heap.size 0 v :=
  ⟨Kn.cell_new w _ t 0 _ rfl, Kn.cell_new w _ t 1 _ rfl, Kn.cell_new w _ t 2 _ rfl⟩
theorem Kn.At.alloc {w : World} {b o : Nat} {v : Kn.V} (h : Kn.At w b o v) (x : Obj) : Kn.At (w.alloc x) b o v := h.later ((Below.refl _ w).alloc (Nat.le_refl _) x)
/-- Two values boxed, one behind the other. -/
theorem Kn.boxed2 (w : World) (a b : Kn.V) (t t' : TypeId) : Kn.At ((w.alloc (.cells #[.bool a.null, .int .i64 a.n, .string a.s] t)).alloc (.cells #[.bool b.null, .int .i64 b.n, .string b.s] t')) w.heap.size 0 a ∧
    Kn.At ((w.alloc (.cells #[.bool a.null, .int .i64 a.n, .string a.s] t)).alloc (.cells #[.bool b.null, .int .i64 b.n, .string b.s] t')) (w.heap.size + 1) 0 b := by
  refine ⟨(Kn.At.new w a t).alloc _, ?_⟩
  have := Kn.At.new (w.alloc (.cells #[.bool a.null, .int .i64 a.n, .string a.s] t)) b t'
  rwa [World.size_alloc] at this
/-- The value's text is no longer than a machine can hold. -/
def Kn.Z (a : Kn.V) : Prop := a.s.size ≤ 140737488351232
theorem Kn.len_toList (s : ByteArray) : s.toList.length = s.size := by
  rw [ByteArray.toList_eq]
  exact Array.length_toList
theorem Kn.at_toList (s : ByteArray) (k : Nat) (h : k < s.size) : s.toList.drop k = s[k] :: s.toList.drop (k + 1) := by
  have hl : k < s.toList.length := by rw [Kn.len_toList]; exact h
  rw [List.drop_eq_getElem_cons hl]
  congr 1
  rw [List.getElem_of_eq (ByteArray.toList_eq s)]
  rfl
theorem Kn.bl_step (x y : UInt8) (l m : List UInt8) : ((((x.toNat : Int) != (y.toNat : Int)) = true ∧ Op.bytesLess (x :: l) (y :: m) = decide (x.toNat < y.toNat)) ∨ (((x.toNat : Int) != (y.toNat : Int)) = false ∧ Op.bytesLess (x :: l) (y :: m) = Op.bytesLess l m)) := by
  by_cases h : x = y
  · subst h
    right
    simp [Op.bytesLess]
  · left
    have hn : x.toNat ≠ y.toNat := fun e => h (UInt8.toNat_inj.1 e)
    refine ⟨by rw [bne_iff_ne]; omega, ?_⟩
    simp [Op.bytesLess, h, UInt8.lt_iff_toNat_lt]
theorem Kn.bl_end (a b : ByteArray) (k : Nat) (ha : k ≤ a.size) (hb : k ≤ b.size) (h : ¬ k < a.size ∨ ¬ k < b.size) : Op.bytesLess (a.toList.drop k) (b.toList.drop k) = decide (a.size < b.size) := by
  by_cases h1 : k < b.size
  · have e : a.toList.drop k = [] := List.drop_eq_nil_of_le (by rw [Kn.len_toList]; omega)
    rw [e, Kn.at_toList b k h1]
    rw [decide_eq_true (by omega)]
    rfl
  · have e : b.toList.drop k = [] := List.drop_eq_nil_of_le (by rw [Kn.len_toList]; omega)
    rw [e, decide_eq_false (by omega)]
    cases List.drop k a.toList <;> rfl
set_option maxHeartbeats 1000000 in
theorem Kn.rahead_c (a b : ByteArray) (ha : a.size ≤ 140737488351232) (hb : b.size ≤ 140737488351232) (w : World) :
    Calls Try.prog 82 #[.string a, .string b] w fun e w' => e = .returned (.bool (Op.bytesLess a.toList b.toList)) ∧ ∃ n, w' = w.drewN n := by
  go_enter Try.func82, Try.ntmps82
  go_wp2
  go_loopw [5] (fun i wr => ∃ k : Nat, k ≤ a.size ∧ k ≤ b.size ∧ i = .int .i64 k ∧ Op.bytesLess a.toList b.toList = Op.bytesLess (a.toList.drop k) (b.toList.drop k) ∧ ∃ n, wr = w.drewN n) (fun i _ => a.size - (intOf i).toNat)
  case atStart => exact ⟨0, by omega, by omega, rfl, rfl, 0, rfl⟩
  case round =>
    obtain ⟨k, hka, hkb, rfl, hl, n, rfl⟩ := hrel
    by_cases h1 : k < a.size
    · by_cases h2 : k < b.size
      · have d1 : (k : Int) < (a.size : Int) := by omega
        have d2 : (k : Int) < (b.size : Int) := by omega
        have d0 : 0 ≤ (k : Int) := by omega
        rw [Kn.at_toList a k h1, Kn.at_toList b k h2] at hl
        have HL := Lib.hid hl
        clear hl
        rcases Kn.bl_step a[k] b[k] (a.toList.drop (k + 1)) (b.toList.drop (k + 1)) with ⟨h3, h4⟩ | ⟨h3, h4⟩
        · have H4 := Lib.hid h4
          clear h4
          go_wp2_with fail
          go_quiet (fail)
          go_wp2_with fail
          go_quiet (fail)
          go_wp2
          go_ret
          exact ⟨congrArg (fun x => Ending.returned (.bool x)) (HL.out.trans H4.out).symm, _, by rw [World.drewN_drewN, World.drewN_drewN]⟩
        · have H4 := Lib.hid h4
          clear h4
          go_wp2_with fail
          go_quiet (fail)
          go_wp2
          go_roundw
          case rel => exact ⟨k + 1, by omega, by omega, by simp, by rw [HL.out, H4.out], _, rfl⟩
          case measure => simp [intOf]; omega
      · have d1 : (k : Int) < (a.size : Int) := by omega
        have d2 : ¬ (k : Int) < (b.size : Int) := by omega
        go_wp2
        go_ret
        exact ⟨congrArg (fun x => Ending.returned (.bool x)) (Kn.bl_end a b k hka hkb (.inr h2)).symm, _, rfl⟩
    · have d1 : ¬ (k : Int) < (a.size : Int) := by omega
      go_wp2
      go_ret
      exact ⟨congrArg (fun x => Ending.returned (.bool x)) (Kn.bl_end a b k hka hkb (.inl h1)).symm, _, rfl⟩
/-- The document's answer: what is ahead. -/
theorem Kn.ahead_is (a b : Kn.V) : (decide (Kn.cmp a b < 0)) = (if a.null = true then !b.null else if b.null = true then false else if (a.n != b.n) = true then decide (a.n < b.n) else Op.bytesLess a.s.toList b.s.toList) := by
  unfold Kn.cmp
  cases a.null <;> cases b.null <;> simp only [Bool.false_eq_true, if_false, if_true]
  · by_cases h : a.n = b.n
    · rw [h]
      have e : Kn.ncmp b.n b.n = 0 := (Kn.ncmp_zero _ _).2 rfl
      rw [e]
      have e2 : (b.n != b.n) = false := by simp
      rw [e2, if_neg (by simp)]
      show decide (Kn.lcmp a.s.toList b.s.toList < 0) = _
      unfold Kn.lcmp
      cases Op.bytesLess a.s.toList b.s.toList
      · cases Op.bytesLess b.s.toList a.s.toList <;> rfl
      · rfl
    · have e : Kn.ncmp a.n b.n ≠ 0 := fun e => h ((Kn.ncmp_zero _ _).1 e)
      have e2 : (a.n != b.n) = true := by rw [bne_iff_ne]; exact h
      rw [if_pos e2]
      unfold Kn.or2
      rw [if_neg e, Bool.eq_iff_iff, decide_eq_true_iff, decide_eq_true_iff]
      unfold Kn.ncmp
      repeat' split <;> omega
  all_goals rfl
set_option maxHeartbeats 1000000 in
theorem Kn.rAhead_c (a b : Kn.V) (ha : Kn.Z a) (hb : Kn.Z b) (w : World) :
    Calls Try.prog 78 #[a.val, b.val] w fun e w' => e = .returned (.bool (decide (Kn.cmp a b < 0))) ∧ Below w.heap.size w w' := by
  rw [Kn.ahead_is]
  obtain ⟨an, ai, sa⟩ := a
  obtain ⟨bn, bi, sb⟩ := b
  unfold Kn.V.val
  cases an <;> cases bn
  · rcases Bool.eq_false_or_eq_true (ai != bi) with h | h
    · show Calls _ _ _ _ fun e w' => e = .returned (.bool (if (ai != bi) = true then decide (ai < bi) else Op.bytesLess sa.toList sb.toList)) ∧ _
      rw [if_pos h]
      go_enter Try.func78, Try.ntmps78
      go_wp2
      go_ret
      exact ⟨rfl, ((Below.refl _ w).alloc (Nat.le_refl _) _).alloc (by simp) _⟩
    · show Calls _ _ _ _ fun e w' => e = .returned (.bool (if (ai != bi) = true then decide (ai < bi) else Op.bytesLess sa.toList sb.toList)) ∧ _
      rw [if_neg (by rw [h]; simp)]
      go_enter Try.func78, Try.ntmps78
      go_wp2_with fail
      refine (Kn.rahead_c sa sb ha hb _).mono ?_
      rintro e w1 ⟨rfl, n, rfl⟩
      go_wp2
      go_ret
      exact ⟨rfl, Kn.below_drewN (((Below.refl _ w).alloc (Nat.le_refl _) _).alloc (by simp) _) n⟩
  all_goals
    go_enter Try.func78, Try.ntmps78
    go_wp2
    go_ret
    exact ⟨rfl, ((Below.refl _ w).alloc (Nat.le_refl _) _).alloc (by simp) _⟩
end Go.Proofs.Ytfkdkdkdpenblaa

namespace Go.Proofs.Ytfkdkdkdpenblaa.Ig
open Go.RowKit
open Ty (num encU zig zag I64 U64)
/-- A signed number's bytes. -/
def encI (x : Int) : List UInt8 := encU (zig x).toNat
/-- The signed number that comes next; what is left behind a number. -/
def sg (l : List UInt8) : Int := zag ((num l).1 : Int)
def rest (l : List UInt8) : List UInt8 := l.drop (num l).2.1
theorem sg_i64 (l : List UInt8) : I64 (sg l) := Ty.zag_i64 (Ty.num_u64 l)
theorem zag_toNat (x : Int) : zag (((zig x).toNat : Nat) : Int) = x := by rw [Int.toNat_of_nonneg (Ty.zig_nonneg x), Ty.zag_zig]
theorem num_encI (x : Int) (h : I64 x) (r : List UInt8) : num (encI x ++ r) = ((zig x).toNat, (encI x).length, 0) := Ty.num_encU _ (Ty.zig_u64 h) r
theorem read_encI (x : Int) (h : I64 x) (r : List UInt8) : (num (encI x ++ r)).2.2 = 0 ∧ sg (encI x ++ r) = x ∧ rest (encI x ++ r) = r := by
  unfold sg rest
  rw [num_encI x h r]
  exact ⟨rfl, zag_toNat x, by simp⟩
theorem read_encU (n : Nat) (h : U64 n) (r : List UInt8) : (num (encU n ++ r)).2.2 = 0 ∧ (num (encU n ++ r)).1 = n ∧ rest (encU n ++ r) = r := by
  unfold rest
  rw [Ty.num_encU n h r]
  exact ⟨rfl, rfl, by simp⟩
theorem splitU {l : List UInt8} (h : (num l).2.2 = 0) : l = encU (num l).1 ++ rest l := by
  unfold rest
  rw [(Ty.encU_num l h).1, List.take_append_drop]
theorem splitI {l : List UInt8} (h : (num l).2.2 = 0) : l = encI (sg l) ++ rest l := by
  have e : (zig (sg l)).toNat = (num l).1 := by
    unfold sg
    rw [Ty.zig_zag (Int.natCast_nonneg _)]
    simp
  unfold encI
  rw [e]
  exact splitU h
/-- So many signed numbers. -/
def rdInts : Nat → List UInt8 → Nat × List Int × List UInt8
  | 0, l => (0, [], l)
  | n + 1, l => if (num l).2.2 ≠ 0 then ((num l).2.2, [], l) else ((rdInts n (rest l)).1, sg l :: (rdInts n (rest l)).2.1, (rdInts n (rest l)).2.2)
theorem rdInts_back (L : List Int) (h : ∀ x ∈ L, I64 x) (r : List UInt8) : rdInts L.length (L.flatMap encI ++ r) = (0, L, r) := by
  induction L with
  | nil => rfl
  | cons x L ih =>
    have e : (x :: L).flatMap encI ++ r = encI x ++ (L.flatMap encI ++ r) := by simp
    obtain ⟨h1, h2, h3⟩ := read_encI x (h x (by simp)) (L.flatMap encI ++ r)
    rw [e]
    simp only [List.length_cons, rdInts]
    rw [if_neg (by rw [h1]; simp), h2, h3, ih fun y hy => h y (by simp [hy])]
theorem rdInts_only (n : Nat) : ∀ l : List UInt8, (rdInts n l).1 = 0 → l = (rdInts n l).2.1.flatMap encI ++ (rdInts n l).2.2 ∧ (rdInts n l).2.1.length = n ∧ ∀ x ∈ (rdInts n l).2.1, I64 x := by
  induction n with
  | zero => intro l _; simp [rdInts]
  | succ n ih =>
    intro l h
    simp only [rdInts] at h ⊢
    by_cases h1 : (num l).2.2 ≠ 0
    · rw [if_pos h1] at h
      exact absurd h h1
    · rw [if_neg h1] at h ⊢
      obtain ⟨e1, e2, e3⟩ := ih (rest l) h
      refine ⟨?_, by simp [e2], ?_⟩
      · simp only [List.flatMap_cons, List.append_assoc]
        rw [← e1]
        exact splitI (by simpa using h1)
      · intro x hx
        rcases List.mem_cons.1 hx with rfl | hx
        · exact sg_i64 l
        · exact e3 x hx
/-- Sums and differences modulo 2^64, from p on. -/
def acc : Int → List Int → List Int
  | _, [] => []
  | p, x :: xs => wrap64 (p + x) :: acc (wrap64 (p + x)) xs
def diffs : Int → List Int → List Int
  | _, [] => []
  | p, x :: xs => wrap64 (x - p) :: diffs x xs
theorem wrap_i64 (x : Int) : I64 (wrap64 x) := by unfold I64 wrap64; omega
theorem acc_diffs : ∀ (L : List Int) (p : Int), I64 p → (∀ x ∈ L, I64 x) → acc p (diffs p L) = L
  | [], _, _, _ => rfl
  | x :: L, p, hp, hL => by
    have hx := hL x (by simp)
    have e : wrap64 (p + wrap64 (x - p)) = x := by
      unfold I64 at hp hx
      unfold wrap64
      omega
    simp only [diffs, acc]
    rw [e, acc_diffs L x hx fun y hy => hL y (by simp [hy])]
theorem diffs_acc : ∀ (D : List Int) (p : Int), I64 p → (∀ x ∈ D, I64 x) → diffs p (acc p D) = D
  | [], _, _, _ => rfl
  | x :: D, p, hp, hD => by
    have hx := hD x (by simp)
    have e : wrap64 (wrap64 (p + x) - p) = x := by
      unfold I64 at hp hx
      unfold wrap64
      omega
    simp only [diffs, acc]
    rw [e, diffs_acc D _ (wrap_i64 _) fun y hy => hD y (by simp [hy])]
theorem acc_len : ∀ (D : List Int) (p : Int), (acc p D).length = D.length
  | [], _ => rfl
  | _ :: D, _ => by simp [acc, acc_len D]
theorem diffs_len : ∀ (D : List Int) (p : Int), (diffs p D).length = D.length
  | [], _ => rfl
  | _ :: D, _ => by simp [diffs, diffs_len D]
theorem acc_i64 : ∀ (D : List Int) (p : Int), ∀ x ∈ acc p D, I64 x
  | [], _, x, h => by cases h
  | y :: D, p, x, h => by
    simp only [acc] at h
    rcases List.mem_cons.1 h with rfl | h
    · exact wrap_i64 _
    · exact acc_i64 D _ x h
theorem diffs_i64 : ∀ (D : List Int) (p : Int), ∀ x ∈ diffs p D, I64 x
  | [], _, x, h => by cases h
  | y :: D, p, x, h => by
    simp only [diffs] at h
    rcases List.mem_cons.1 h with rfl | h
    · exact wrap_i64 _
    · exact diffs_i64 D _ x h
/-- The maximal runs. -/
def join1 (x : Int) : List (Nat × Int) → List (Nat × Int)
  | [] => [(1, x)]
  | (k, y) :: g => if y = x then (k + 1, x) :: g else (1, x) :: (k, y) :: g
def grp : List Int → List (Nat × Int)
  | [] => []
  | x :: xs => join1 x (grp xs)
def spread (g : List (Nat × Int)) : List Int := g.flatMap fun p => List.replicate p.1 p.2
theorem join1_same (x : Int) (k : Nat) (g : List (Nat × Int)) : join1 x ((k, x) :: g) = (k + 1, x) :: g := by simp [join1]
theorem join1_other {x y : Int} (h : ¬ y = x) (k : Nat) (g : List (Nat × Int)) : join1 x ((k, y) :: g) = (1, x) :: (k, y) :: g := by simp [join1, h]
theorem spread_join (x : Int) (g : List (Nat × Int)) : spread (join1 x g) = x :: spread g := by
  cases g with
  | nil => simp [join1, spread]
  | cons p g =>
    obtain ⟨k, y⟩ := p
    by_cases h : y = x
    · subst h
      rw [join1_same]
      simp [spread, List.replicate_succ]
    · rw [join1_other h]
      simp [spread]
theorem spread_grp (L : List Int) : spread (grp L) = L := by
  induction L with
  | nil => rfl
  | cons x L ih => rw [grp, spread_join, ih]
/-- Runs are proper: none is empty, and none is as the one ahead. -/
def Proper : Option Int → List (Nat × Int) → Prop
  | _, [] => True
  | p, (k, x) :: g => 0 < k ∧ p ≠ some x ∧ Proper (some x) g
theorem proper_join (x : Int) (g : List (Nat × Int)) (h : Proper none g) : Proper none (join1 x g) := by
  cases g with
  | nil => exact ⟨by omega, by simp, trivial⟩
  | cons p g =>
    obtain ⟨k, y⟩ := p
    by_cases e : y = x
    · subst e
      rw [join1_same]
      exact ⟨by omega, by simp, h.2.2⟩
    · rw [join1_other e]
      exact ⟨by omega, by simp, h.1, by simp; exact fun h => e h.symm, h.2.2⟩
theorem proper_grp (L : List Int) : Proper none (grp L) := by
  induction L with
  | nil => trivial
  | cons x L ih => exact proper_join x _ ih
theorem grp_rep (k : Nat) (x : Int) (L : List Int) (g : List (Nat × Int)) (hL : grp L = g) (hx : ∀ p ∈ g.head?, p.2 ≠ x) : grp (List.replicate (k + 1) x ++ L) = (k + 1, x) :: g := by
  induction k with
  | zero =>
    show join1 x (grp L) = _
    rw [hL]
    cases g with
    | nil => rfl
    | cons p g =>
      obtain ⟨j, y⟩ := p
      exact join1_other (hx (j, y) (by simp)) j g
  | succ k ih =>
    rw [List.replicate_succ]
    show join1 x (grp (List.replicate (k + 1) x ++ L)) = _
    rw [ih, join1_same]
theorem grp_spread : ∀ (g : List (Nat × Int)) (p : Option Int), Proper p g → grp (spread g) = g
  | [], _, _ => rfl
  | (k, x) :: g, p, h => by
    obtain ⟨hk, _, hg⟩ := h
    have e : spread ((k, x) :: g) = List.replicate k x ++ spread g := by simp [spread]
    obtain ⟨j, rfl⟩ : ∃ j, k = j + 1 := ⟨k - 1, by omega⟩
    rw [e]
    refine grp_rep j x (spread g) g (grp_spread g _ hg) fun q hq => ?_
    cases g with
    | nil => cases hq
    | cons q' g =>
      obtain ⟨i, y⟩ := q'
      obtain rfl : (i, y) = q := by simpa using hq
      intro e
      exact hg.2.1 (by simp only at e; rw [e])
/-- A run's bytes. -/
def encR (p : Nat × Int) : List UInt8 := encU p.1 ++ encI p.2
/-- Runs of m numbers in all. -/
def rdRuns : Nat → Nat → Option Int → List UInt8 → Nat × List (Nat × Int) × List UInt8
  | _, 0, _, l => (0, [], l)
  | 0, _, _, l => (0, [], l)
  | f + 1, m, p, l =>
    if (num l).2.2 ≠ 0 then ((num l).2.2, [], l)
    else if (num l).1 = 0 ∨ m < (num l).1 then (4, [], l)
    else if (num (rest l)).2.2 ≠ 0 then ((num (rest l)).2.2, [], l)
    else if p = some (sg (rest l)) then (4, [], l)
    else ((rdRuns f (m - (num l).1) (some (sg (rest l))) (rest (rest l))).1, ((num l).1, sg (rest l)) :: (rdRuns f (m - (num l).1) (some (sg (rest l))) (rest (rest l))).2.1, (rdRuns f (m - (num l).1) (some (sg (rest l))) (rest (rest l))).2.2)
def total (g : List (Nat × Int)) : Nat := (g.map (·.1)).sum
theorem rdRuns_zero (f : Nat) (p : Option Int) (l : List UInt8) : rdRuns f 0 p l = (0, [], l) := by cases f <;> rfl
theorem rdRuns_back : ∀ (g : List (Nat × Int)) (f m : Nat) (p : Option Int) (r : List UInt8), m ≤ f → m < 2 ^ 64 → total g = m → Proper p g → (∀ q ∈ g, I64 q.2) → rdRuns f m p (g.flatMap encR ++ r) = (0, g, r)
  | [], f, m, p, r, _, _, ht, _, _ => by
    obtain rfl : m = 0 := by simpa [total] using ht.symm
    rw [rdRuns_zero]
    rfl
  | (k, x) :: g, f, m, p, r, hf, hm, ht, hp, hi => by
    obtain ⟨hk, hne, hg⟩ := hp
    have ht2 : k + total g = m := by simpa [total] using ht
    obtain ⟨m', rfl⟩ : ∃ m', m = m' + 1 := ⟨m - 1, by omega⟩
    obtain ⟨f', rfl⟩ : ∃ f', f = f' + 1 := ⟨f - 1, by omega⟩
    have e : ((k, x) :: g).flatMap encR ++ r = encU k ++ (encI x ++ (g.flatMap encR ++ r)) := by simp [encR]
    obtain ⟨a1, a2, a3⟩ := read_encU k (show U64 k by unfold U64; omega) (encI x ++ (g.flatMap encR ++ r))
    obtain ⟨b1, b2, b3⟩ := read_encI x (hi (k, x) (by simp)) (g.flatMap encR ++ r)
    rw [e]
    simp only [rdRuns]
    rw [if_neg (by rw [a1]; simp), a2, if_neg (by omega), a3, if_neg (by rw [b1]; simp), b2, if_neg hne, b3, rdRuns_back g f' (m' + 1 - k) (some x) r (by omega) (by omega) (by omega) hg fun q hq => hi q (by simp [hq])]
theorem rdRuns_only : ∀ (f m : Nat) (p : Option Int) (l : List UInt8), m ≤ f → (rdRuns f m p l).1 = 0 → l = (rdRuns f m p l).2.1.flatMap encR ++ (rdRuns f m p l).2.2 ∧ total (rdRuns f m p l).2.1 = m ∧ Proper p (rdRuns f m p l).2.1 ∧ ∀ q ∈ (rdRuns f m p l).2.1, I64 q.2
  | f, 0, p, l, _, _ => by
    rw [rdRuns_zero]
    exact ⟨rfl, rfl, trivial, fun q hq => by cases hq⟩
  | 0, m + 1, _, _, hf, _ => by omega
  | f + 1, m + 1, p, l, hf, h => by
    simp only [rdRuns] at h ⊢
    by_cases h1 : (num l).2.2 ≠ 0
    · rw [if_pos h1] at h
      exact absurd h h1
    · rw [if_neg h1] at h ⊢
      by_cases h2 : (num l).1 = 0 ∨ m + 1 < (num l).1
      · rw [if_pos h2] at h
        cases h
      · rw [if_neg h2] at h ⊢
        by_cases h3 : (num (rest l)).2.2 ≠ 0
        · rw [if_pos h3] at h
          exact absurd h h3
        · rw [if_neg h3] at h ⊢
          by_cases h4 : p = some (sg (rest l))
          · rw [if_pos h4] at h
            cases h
          · rw [if_neg h4] at h ⊢
            obtain ⟨e1, e2, e3, e4⟩ := rdRuns_only f (m + 1 - (num l).1) (some (sg (rest l))) (rest (rest l)) (by omega) h
            refine ⟨?_, ?_, ⟨by omega, h4, e3⟩, ?_⟩
            · simp only [List.flatMap_cons, List.append_assoc, encR]
              rw [← e1, ← splitI (by simpa using h3)]
              exact splitU (by simpa using h1)
            · simp only [total, List.map_cons, List.sum_cons] at e2 ⊢
              omega
            · intro q hq
              rcases List.mem_cons.1 hq with rfl | hq
              · exact sg_i64 _
              · exact e4 q hq
theorem total_spread (g : List (Nat × Int)) : (spread g).length = total g := by
  induction g with
  | nil => rfl
  | cons p g ih =>
    have e : spread (p :: g) = List.replicate p.1 p.2 ++ spread g := by simp [spread]
    rw [e, List.length_append, ih]
    simp [total]
theorem grp_i64 (L : List Int) (h : ∀ x ∈ L, I64 x) : ∀ q ∈ grp L, I64 q.2 := by
  intro q hq
  have hp : ∀ (g : List (Nat × Int)) (p : Option Int), Proper p g → ∀ q ∈ g, q.2 ∈ spread g := by
    intro g
    induction g with
    | nil => intro _ _ q hq; cases hq
    | cons a g ih =>
      intro p hp q hq
      have e : spread (a :: g) = List.replicate a.1 a.2 ++ spread g := by simp [spread]
      rw [e]
      rcases List.mem_cons.1 hq with rfl | hq
      · exact List.mem_append_left _ (List.mem_replicate.2 ⟨by have := hp.1; omega, rfl⟩)
      · exact List.mem_append_right _ (ih _ hp.2.2 q hq)
  have := hp _ _ (proper_grp L) q hq
  rw [spread_grp] at this
  exact h _ this
theorem spread_i64 (g : List (Nat × Int)) (h : ∀ q ∈ g, I64 q.2) : ∀ x ∈ spread g, I64 x := by
  intro x hx
  obtain ⟨q, hq, hx⟩ := List.mem_flatMap.1 hx
  rw [List.mem_replicate] at hx
  rw [hx.2]
  exact h q hq
/-- The smallest one. -/
def low : List Int → Int
  | [] => 0
  | x :: xs => xs.foldl min x
theorem foldl_min (l : List Int) : ∀ x : Int, l.foldl min x ≤ x ∧ (∀ y ∈ l, l.foldl min x ≤ y) ∧ (l.foldl min x = x ∨ l.foldl min x ∈ l) := by
  induction l with
  | nil => intro x; exact ⟨Int.le_refl _, (fun y hy => by cases hy), .inl rfl⟩
  | cons z l ih =>
    intro x
    obtain ⟨h1, h2, h3⟩ := ih (min x z)
    simp only [List.foldl_cons]
    refine ⟨by omega, fun y hy => ?_, ?_⟩
    · rcases List.mem_cons.1 hy with rfl | hy
      · omega
      · exact h2 y hy
    · rcases h3 with h3 | h3
      · by_cases h : x ≤ z
        · exact .inl (by rw [h3]; omega)
        · exact .inr (by rw [h3, show min x z = z by omega]; simp)
      · exact .inr (List.mem_cons_of_mem _ h3)
theorem low_le (L : List Int) : ∀ x ∈ L, low L ≤ x := by
  cases L with
  | nil => intro x hx; cases hx
  | cons a L =>
    intro x hx
    obtain ⟨h1, h2, _⟩ := foldl_min L a
    rcases List.mem_cons.1 hx with rfl | hx
    · exact h1
    · exact h2 x hx
theorem low_mem (L : List Int) (h : L ≠ []) : low L ∈ L := by
  cases L with
  | nil => exact absurd rfl h
  | cons a L =>
    obtain ⟨_, _, h3⟩ := foldl_min L a
    rcases h3 with h3 | h3
    · show L.foldl min a ∈ a :: L
      rw [h3]; simp
    · exact List.mem_cons_of_mem _ h3
theorem low_is (L : List Int) (x : Int) (h : x ∈ L) (hl : ∀ y ∈ L, x ≤ y) : low L = x := Int.le_antisymm (low_le L x h) (hl _ (low_mem L (by intro e; rw [e] at h; cases h)))
/-- The differences from the smallest one. -/
def off (L : List Int) (i : Nat) : Nat := (L.getD i (low L) - low L).toNat
theorem off_lt (L : List Int) (h : ∀ x ∈ L, I64 x) (i : Nat) : off L i < 2 ^ 64 := by
  unfold off
  rw [List.getD]
  cases hg : L[i]? with
  | none => simp
  | some x =>
    have hx := h x (List.mem_of_getElem? hg)
    have hne : L ≠ [] := by intro e; rw [e] at hg; cases hg
    have hl := h _ (low_mem L hne)
    unfold I64 at hx hl
    simp only [Option.getD_some]
    omega
/-- The bytes of the differences. -/
def encP (L : List Int) : List UInt8 := if L = [] then [] else encI (low L) ++ (UInt8.ofNat (Bt.wid L.length (off L)) :: (Bt.bytes (Bt.need (L.length * Bt.wid L.length (off L))) (Bt.pk L.length (off L) (Bt.wid L.length (off L)))).data.toList)
/-- The numbers of w bits in bytes, as Unpack has them. -/
def un (s : ByteArray) (w i : Nat) : Nat := Bt.num w (fun j => Bt.bit s (i * w + j))
/-- The elements out of the smallest one and the differences. -/
def outs (n : Nat) (x : Int) (X : Nat → Nat) : List Int := (List.range n).map fun i => wrap64 (x + (X i : Int))
/-- What is right of the differences. -/
def good (n w : Nat) (x : Int) (X : Nat → Nat) : Bool := (List.range n).any (fun i => X i == 0) && (Bt.wid n X == w) && (low (outs n x X) == x)
/-- Packed numbers, at least one. -/
def rdPacked (n : Nat) (l : List UInt8) : Nat × List Int × List UInt8 :=
  if (num l).2.2 ≠ 0 then ((num l).2.2, [], l)
  else match rest l with
    | [] => (2, [], l)
    | b :: r =>
      if 64 < b.toNat then (4, [], l)
      else if r.length < Bt.need (n * b.toNat) then (2, [], l)
      else if Bt.chk ⟨(r.take (Bt.need (n * b.toNat))).toArray⟩ (n * b.toNat) ≠ 0 then (Bt.chk ⟨(r.take (Bt.need (n * b.toNat))).toArray⟩ (n * b.toNat), [], l)
      else if good n b.toNat (sg l) (un ⟨(r.take (Bt.need (n * b.toNat))).toArray⟩ b.toNat) = true then (0, outs n (sg l) (un ⟨(r.take (Bt.need (n * b.toNat))).toArray⟩ b.toNat), r.drop (Bt.need (n * b.toNat)))
      else (4, [], l)
theorem outs_off (L : List Int) (h : ∀ x ∈ L, I64 x) : outs L.length (low L) (off L) = L := by
  unfold outs
  refine List.ext_getElem (by simp) fun i h1 h2 => ?_
  rw [List.getElem_map, List.getElem_range]
  have hx := h _ (List.getElem_mem h2)
  have hl := low_le L _ (List.getElem_mem h2)
  have e : ((off L i : Nat) : Int) = L[i] - low L := by
    unfold off
    rw [List.getD, List.getElem?_eq_getElem h2]
    simp only [Option.getD_some]
    omega
  rw [e]
  unfold I64 at hx
  unfold wrap64
  omega
theorem good_off (L : List Int) (hne : L ≠ []) (h : ∀ x ∈ L, I64 x) : good L.length (Bt.wid L.length (off L)) (low L) (off L) = true := by
  unfold good
  rw [outs_off L h]
  obtain ⟨i, hi, e⟩ := List.getElem_of_mem (low_mem L hne)
  have h0 : off L i = 0 := by
    unfold off
    rw [List.getD, List.getElem?_eq_getElem hi, Option.getD_some, e]
    simp
  have ha : (List.range L.length).any (fun i => off L i == 0) = true := List.any_eq_true.2 ⟨i, List.mem_range.2 hi, by rw [h0]; rfl⟩
  rw [ha]
  simp
theorem good_congr {n w : Nat} {x : Int} {X Y : Nat → Nat} (h : ∀ i, i < n → X i = Y i) : good n w x X = good n w x Y := by
  have e1 : (List.range n).any (fun i => X i == 0) = (List.range n).any (fun i => Y i == 0) := by
    rw [Bool.eq_iff_iff, List.any_eq_true, List.any_eq_true]
    constructor
    · rintro ⟨i, hi, e⟩
      exact ⟨i, hi, by rw [← h i (List.mem_range.1 hi)]; exact e⟩
    · rintro ⟨i, hi, e⟩
      exact ⟨i, hi, by rw [h i (List.mem_range.1 hi)]; exact e⟩
  have e2 : Bt.orN n X = Bt.orN n Y := by
    have : ∀ k, k ≤ n → Bt.orN k X = Bt.orN k Y := by
      intro k
      induction k with
      | zero => intro _; rfl
      | succ k ih => intro hk; simp only [Bt.orN]; rw [ih (by omega), h k (by omega)]
    exact this n (Nat.le_refl _)
  have e3 : outs n x X = outs n x Y := List.map_congr_left fun i hi => by rw [h i (List.mem_range.1 hi)]
  unfold good Bt.wid
  rw [e1, e2, e3]
theorem outs_congr {n : Nat} {x : Int} {X Y : Nat → Nat} (h : ∀ i, i < n → X i = Y i) : outs n x X = outs n x Y := List.map_congr_left fun i hi => by rw [h i (List.mem_range.1 hi)]
theorem rdPacked_back (L : List Int) (hne : L ≠ []) (h : ∀ x ∈ L, I64 x) (r : List UInt8) : rdPacked L.length (encP L ++ r) = (0, L, r) := by
  unfold encP
  rw [if_neg hne]
  have hw := Bt.wid_64 (n := L.length) (off_lt L h)
  have hX := (Bt.wid_le L.length (off L) _).1 (Nat.le_refl _)
  have hg := good_off L hne h
  have ho := outs_off L h
  have hB := fun i hi => Bt.back (n := L.length) (X := off L) (i := i) hi (hX i hi)
  have hC := Bt.chk_pack L.length (off L) (Bt.wid L.length (off L))
  generalize Bt.wid L.length (off L) = w at hw hg hB hC ⊢
  have hsz := Bt.size_bytes (Bt.need (L.length * w)) (Bt.pk L.length (off L) w)
  generalize Bt.bytes (Bt.need (L.length * w)) (Bt.pk L.length (off L) w) = s at hB hC hsz ⊢
  have hl := h _ (low_mem L hne)
  have e : encI (low L) ++ (UInt8.ofNat w :: s.data.toList) ++ r = encI (low L) ++ (UInt8.ofNat w :: (s.data.toList ++ r)) := by simp
  obtain ⟨a1, a2, a3⟩ := read_encI (low L) hl (UInt8.ofNat w :: (s.data.toList ++ r))
  have hwn : (UInt8.ofNat w).toNat = w := by simp [UInt8.toNat_ofNat']; omega
  have hlen := Bt.length_data s
  have et : (s.data.toList ++ r).take (Bt.need (L.length * w)) = s.data.toList := by
    rw [← hsz, ← hlen]; simp
  have ed : (s.data.toList ++ r).drop (Bt.need (L.length * w)) = r := by
    rw [← hsz, ← hlen]; simp
  have es : (⟨s.data.toList.toArray⟩ : ByteArray) = s := rfl
  rw [e]
  unfold rdPacked
  rw [if_neg (by rw [a1]; simp), a3, a2]
  simp only [hwn]
  rw [if_neg (by omega), if_neg (by rw [List.length_append, hlen, hsz]; omega), et, ed, es, if_neg (by rw [hC]; simp)]
  have hc : ∀ i, i < L.length → un s w i = off L i := fun i hi => hB i hi
  rw [good_congr hc, if_pos hg, outs_congr hc, ho]
theorem rdPacked_only (n : Nat) (hn : 0 < n) (l : List UInt8) (h : (rdPacked n l).1 = 0) : l = encP (rdPacked n l).2.1 ++ (rdPacked n l).2.2 ∧ (rdPacked n l).2.1.length = n ∧ ∀ x ∈ (rdPacked n l).2.1, I64 x := by
  unfold rdPacked at h ⊢
  by_cases h1 : (num l).2.2 ≠ 0
  · rw [if_pos h1] at h
    exact absurd h h1
  · rw [if_neg h1] at h ⊢
    have hs := splitI (l := l) (by simpa using h1)
    cases hr : rest l with
    | nil => rw [hr] at h; cases h
    | cons b r =>
      rw [hr] at h
      simp only at h ⊢
      by_cases h2 : 64 < b.toNat
      · rw [if_pos h2] at h; cases h
      · rw [if_neg h2] at h ⊢
        by_cases h3 : r.length < Bt.need (n * b.toNat)
        · rw [if_pos h3] at h; cases h
        · rw [if_neg h3] at h ⊢
          by_cases h4 : Bt.chk ⟨(r.take (Bt.need (n * b.toNat))).toArray⟩ (n * b.toNat) ≠ 0
          · rw [if_pos h4] at h
            exact absurd h h4
          · rw [if_neg h4] at h ⊢
            have hC : Bt.chk ⟨(r.take (Bt.need (n * b.toNat))).toArray⟩ (n * b.toNat) = 0 := by simpa using h4
            by_cases h5 : good n b.toNat (sg l) (un ⟨(r.take (Bt.need (n * b.toNat))).toArray⟩ b.toNat) = true
            · rw [if_pos h5]
              have hO := Bt.only hC
              have hlt : ∀ i, un ⟨(r.take (Bt.need (n * b.toNat))).toArray⟩ b.toNat i < 2 ^ b.toNat := fun i => Bt.num_lt _ _
              have hlt64 : ∀ i, un ⟨(r.take (Bt.need (n * b.toNat))).toArray⟩ b.toNat i < 2 ^ 64 := fun i => Nat.lt_of_lt_of_le (hlt i) (Nat.pow_le_pow_right (by decide) (by omega))
              have hun : (fun i => Bt.num b.toNat (fun j => Bt.bit ⟨(r.take (Bt.need (n * b.toNat))).toArray⟩ (i * b.toNat + j))) = un ⟨(r.take (Bt.need (n * b.toNat))).toArray⟩ b.toNat := rfl
              rw [hun] at hO
              unfold good at h5
              simp only [Bool.and_eq_true, beq_iff_eq] at h5
              obtain ⟨⟨_, hW⟩, hL⟩ := h5
              generalize hX : un ⟨(r.take (Bt.need (n * b.toNat))).toArray⟩ b.toNat = X at hO hlt hlt64 hW hL ⊢
              have hlen : (outs n (sg l) X).length = n := by simp [outs]
              have hne : outs n (sg l) X ≠ [] := by intro e; rw [e] at hlen; simp at hlen; omega
              have hi64 : ∀ x ∈ outs n (sg l) X, I64 x := by
                intro x hx
                obtain ⟨i, _, rfl⟩ := List.mem_map.1 hx
                exact wrap_i64 _
              have hoff : ∀ i, i < n → off (outs n (sg l) X) i = X i := by
                intro i hi
                have hg : (outs n (sg l) X)[i]? = some (wrap64 (sg l + (X i : Int))) := by simp [outs, hi]
                have hle := low_le _ _ (List.mem_of_getElem? hg)
                unfold off
                rw [List.getD, hg, Option.getD_some, hL]
                rw [hL] at hle
                have hx := hlt64 i
                have hl := sg_i64 l
                unfold I64 at hl
                unfold wrap64 at hle ⊢
                omega
              have hwid : Bt.wid n (off (outs n (sg l) X)) = b.toNat := by
                have e : Bt.orN n (off (outs n (sg l) X)) = Bt.orN n X := by
                  have : ∀ k, k ≤ n → Bt.orN k (off (outs n (sg l) X)) = Bt.orN k X := by
                    intro k
                    induction k with
                    | zero => intro _; rfl
                    | succ k ih => intro hk; simp only [Bt.orN]; rw [ih (by omega), hoff k (by omega)]
                  exact this n (Nat.le_refl _)
                unfold Bt.wid at hW ⊢
                rw [e]; exact hW
              have hpk : Bt.bytes (Bt.need (n * b.toNat)) (Bt.pk n (off (outs n (sg l) X)) b.toNat) = Bt.bytes (Bt.need (n * b.toNat)) (Bt.pk n X b.toNat) := by
                refine Bt.bytes_congr fun x _ => ?_
                unfold Bt.pk
                by_cases hx : x < n * b.toNat
                · have hb0 : 0 < b.toNat := by
                    rcases Nat.eq_zero_or_pos b.toNat with h0 | h0
                    · rw [h0] at hx; simp at hx
                    · exact h0
                  rw [hoff (x / b.toNat) ((Nat.div_lt_iff_lt_mul hb0).2 hx)]
                · simp [hx]
              refine ⟨?_, hlen, hi64⟩
              unfold encP
              rw [if_neg hne, hlen, hL, hwid, hpk, hO]
              have hub : UInt8.ofNat b.toNat = b := by simp
              rw [hub]
              have : encI (sg l) ++ (b :: (⟨(r.take (Bt.need (n * b.toNat))).toArray⟩ : ByteArray).data.toList) ++ r.drop (Bt.need (n * b.toNat)) = encI (sg l) ++ (b :: r) := by
                simp
              rw [this, ← hr]
              exact hs
            · rw [if_neg h5] at h; cases h
/-- The encoding of a column by a codec. -/
def body (k : Nat) (L : List Int) : List UInt8 := if k = 0 then L.flatMap encI else if k = 1 then (diffs 0 L).flatMap encI else if k = 2 then (grp L).flatMap encR else encP L
def enc (k : Nat) (L : List Int) : List UInt8 := UInt8.ofNat k :: (encU L.length ++ body k L)
/-- So many elements by a codec. -/
def rdBody (k n : Nat) (l : List UInt8) : Nat × List Int × List UInt8 :=
  if k = 0 then rdInts n l
  else if k = 1 then ((rdInts n l).1, acc 0 (rdInts n l).2.1, (rdInts n l).2.2)
  else if k = 2 then ((rdRuns n n none l).1, spread (rdRuns n n none l).2.1, (rdRuns n n none l).2.2)
  else if n = 0 then (0, [], l) else rdPacked n l
/-- What is read of bytes: the first error, the elements. -/
def rd (l : List UInt8) : Nat × List Int :=
  match l with
  | [] => (2, [])
  | b :: r =>
    if 3 < b.toNat then (4, [])
    else if (num r).2.2 ≠ 0 then ((num r).2.2, [])
    else if 65536 < (num r).1 then (3, [])
    else if (rdBody b.toNat (num r).1 (rest r)).1 ≠ 0 then ((rdBody b.toNat (num r).1 (rest r)).1, [])
    else if (rdBody b.toNat (num r).1 (rest r)).2.2 ≠ [] then (5, [])
    else (0, (rdBody b.toNat (num r).1 (rest r)).2.1)
theorem rdBody_back (k : Nat) (L : List Int) (h : ∀ x ∈ L, I64 x) (hl : L.length < 2 ^ 64) (r : List UInt8) : rdBody k L.length (body k L ++ r) = (0, L, r) := by
  have h0 : I64 0 := by unfold I64; omega
  unfold rdBody body
  by_cases h1 : k = 0
  · simp only [h1, if_true]
    exact rdInts_back L h r
  · by_cases h2 : k = 1
    · simp only [h2, if_false, if_true, Nat.one_ne_zero]
      have := rdInts_back (diffs 0 L) (diffs_i64 L 0) r
      rw [diffs_len] at this
      rw [this]
      simp only [acc_diffs L 0 h0 h]
    · by_cases h3 : k = 2
      · subst h3
        simp only [if_true, if_false, show ¬ (2 : Nat) = 0 by omega, show ¬ (2 : Nat) = 1 by omega]
        have e : total (grp L) = L.length := by rw [← total_spread, spread_grp]
        have := rdRuns_back (grp L) L.length L.length none r (Nat.le_refl _) hl e (proper_grp L) (grp_i64 L h)
        rw [this]
        simp only [spread_grp]
      · simp only [h1, h2, h3, if_false]
        by_cases hne : L = []
        · subst hne
          simp [encP]
        · rw [if_neg (by intro e; exact hne (List.eq_nil_of_length_eq_zero e))]
          exact rdPacked_back L hne h r
theorem rdBody_only (k n : Nat) (l : List UInt8) (h : (rdBody k n l).1 = 0) : l = body k (rdBody k n l).2.1 ++ (rdBody k n l).2.2 ∧ (rdBody k n l).2.1.length = n ∧ ∀ x ∈ (rdBody k n l).2.1, I64 x := by
  have h0 : I64 0 := by unfold I64; omega
  unfold rdBody at h ⊢
  unfold body
  by_cases h1 : k = 0
  · simp only [h1, if_true] at h ⊢
    exact rdInts_only n l h
  · by_cases h2 : k = 1
    · simp only [h2, if_false, if_true, Nat.one_ne_zero] at h ⊢
      obtain ⟨e1, e2, e3⟩ := rdInts_only n l h
      exact ⟨by rw [diffs_acc _ 0 h0 e3]; exact e1, by rw [acc_len]; exact e2, acc_i64 _ 0⟩
    · by_cases h3 : k = 2
      · subst h3
        simp only [if_true, if_false, show ¬ (2 : Nat) = 0 by omega, show ¬ (2 : Nat) = 1 by omega] at h ⊢
        obtain ⟨e1, e2, e3, e4⟩ := rdRuns_only n n none l (Nat.le_refl _) h
        exact ⟨by rw [grp_spread _ none e3]; exact e1, by rw [total_spread]; exact e2, spread_i64 _ e4⟩
      · simp only [h1, h2, h3, if_false] at h ⊢
        by_cases hn : n = 0
        · subst hn
          simp [encP]
        · rw [if_neg hn] at h ⊢
          exact rdPacked_only n (by omega) l h
/-- THERE AND BACK. -/
theorem rd_enc (k : Nat) (hk : k ≤ 3) (L : List Int) (h : ∀ x ∈ L, I64 x) (hl : L.length ≤ 65536) : rd (enc k L) = (0, L) := by
  have hkn : (UInt8.ofNat k).toNat = k := by simp [UInt8.toNat_ofNat']; omega
  obtain ⟨a1, a2, a3⟩ := read_encU L.length (show U64 L.length by unfold U64; omega) (body k L)
  have hb := rdBody_back k L h (by omega) []
  rw [List.append_nil] at hb
  unfold rd enc
  simp only [hkn]
  rw [if_neg (by omega), if_neg (by rw [a1]; simp), a2, if_neg (by omega), a3, hb]
  simp
/-- IN ONE WAY. -/
theorem enc_rd (l : List UInt8) (h : (rd l).1 = 0) : ∃ b r, l = b :: r ∧ b.toNat ≤ 3 ∧ enc b.toNat (rd l).2 = l ∧ (rd l).2.length ≤ 65536 ∧ ∀ x ∈ (rd l).2, I64 x := by
  unfold rd at h ⊢
  cases l with
  | nil => cases h
  | cons b r =>
    simp only at h ⊢
    refine ⟨b, r, rfl, ?_⟩
    by_cases h1 : 3 < b.toNat
    · rw [if_pos h1] at h; cases h
    · rw [if_neg h1] at h ⊢
      by_cases h2 : (num r).2.2 ≠ 0
      · rw [if_pos h2] at h
        exact absurd h h2
      · rw [if_neg h2] at h ⊢
        by_cases h3 : 65536 < (num r).1
        · rw [if_pos h3] at h; cases h
        · rw [if_neg h3] at h ⊢
          by_cases h4 : (rdBody b.toNat (num r).1 (rest r)).1 ≠ 0
          · rw [if_pos h4] at h
            exact absurd h h4
          · rw [if_neg h4] at h ⊢
            by_cases h5 : (rdBody b.toNat (num r).1 (rest r)).2.2 ≠ []
            · rw [if_pos h5] at h; cases h
            · rw [if_neg h5]
              obtain ⟨e1, e2, e3⟩ := rdBody_only b.toNat (num r).1 (rest r) (by simpa using h4)
              have e5 : (rdBody b.toNat (num r).1 (rest r)).2.2 = [] := by simpa using h5
              rw [e5, List.append_nil] at e1
              refine ⟨by omega, ?_, by rw [e2]; omega, e3⟩
              unfold enc
              rw [e2, ← e1, ← splitU (by simpa using h2)]
              simp
end Go.Proofs.Ytfkdkdkdpenblaa.Ig

namespace Go.Proofs.Ytfkdkdkdpenblaa.Ig
open Go.RowKit
open Ty (num encU zig zag I64 U64)
/-- The i-th number. -/
def nth (L : List Int) (i : Nat) : Int := L.getD i 0
theorem nth_mem {L : List Int} {i : Nat} (h : i < L.length) : nth L i ∈ L := by
  unfold nth
  rw [List.getD, List.getElem?_eq_getElem h]
  exact List.getElem_mem h
theorem nth_get {L : List Int} {i : Nat} (h : i < L.length) : nth L i = L[i] := by
  unfold nth
  rw [List.getD, List.getElem?_eq_getElem h]
  rfl
theorem nth_i64 {L : List Int} (hL : ∀ x ∈ L, I64 x) {i : Nat} (h : i < L.length) : I64 (nth L i) := hL _ (nth_mem h)
theorem len_encI (x : Int) : (encI x).length ≤ 9 := Ty.encU_len9 _
theorem len_flat (L : List Int) : (L.flatMap encI).length ≤ 9 * L.length := by
  induction L with
  | nil => simp
  | cons x L ih =>
    have := len_encI x
    simp only [List.flatMap_cons, List.length_append, List.length_cons]
    omega
theorem take_next {L : List Int} {k : Nat} (h : k < L.length) : L.take (k + 1) = L.take k ++ [nth L k] := by
  rw [List.take_succ_eq_append_getElem h, nth_get h]
theorem flat_next {L : List Int} {k : Nat} (h : k < L.length) : (L.take (k + 1)).flatMap encI = (L.take k).flatMap encI ++ encI (nth L k) := by
  rw [take_next h, List.flatMap_append]
  simp
theorem len_flat_take (L : List Int) (k : Nat) : ((L.take k).flatMap encI).length ≤ 9 * k := by
  have h1 := len_flat (L.take k)
  have h2 : (L.take k).length ≤ k := List.length_take_le _ _
  omega
/-- The number ahead of the i-th one; 0 ahead of the first. -/
def prv (L : List Int) : Nat → Int
  | 0 => 0
  | k + 1 => nth L k
theorem diffs_nth : ∀ (L : List Int) (p : Int) (k : Nat), k < L.length → nth (diffs p L) k = wrap64 (nth L k - (match k with | 0 => p | j + 1 => nth L j))
  | [], _, _, h => by simp at h
  | x :: L, p, 0, _ => rfl
  | x :: L, p, k + 1, h => by
    have hk : k < L.length := by simpa using h
    have ih := diffs_nth L x k hk
    have e1 : nth (diffs p (x :: L)) (k + 1) = nth (diffs x L) k := by simp [nth, diffs]
    have e2 : nth (x :: L) (k + 1) = nth L k := by simp [nth]
    rw [e1, e2, ih]
    cases k with
    | zero => rfl
    | succ j =>
      have : nth (x :: L) (j + 1) = nth L j := by simp [nth]
      simp only [this]
theorem diffs_at {L : List Int} {k : Nat} (h : k < L.length) : nth (diffs 0 L) k = wrap64 (nth L k - prv L k) := by
  rw [diffs_nth L 0 k h]
  cases k <;> rfl
theorem prv_i64 {L : List Int} (hL : ∀ x ∈ L, I64 x) {k : Nat} (h : k < L.length) : I64 (prv L k) := by
  cases k with
  | zero => show I64 0; unfold I64; omega
  | succ j => exact nth_i64 hL (by omega)
/-- The first k numbers are a maximal run. -/
def Run (L : List Int) (k : Nat) : Prop := 0 < k ∧ k ≤ L.length ∧ (∀ j, j < k → nth L j = nth L 0) ∧ (k < L.length → nth L k ≠ nth L 0)
theorem nth_drop (L : List Int) (k i : Nat) : nth (L.drop k) i = nth L (k + i) := by
  unfold nth
  rw [List.getD, List.getD, List.getElem?_drop]
theorem rep_of {L : List Int} {k : Nat} (hk : k ≤ L.length) {x : Int} (h : ∀ j, j < k → nth L j = x) : L = List.replicate k x ++ L.drop k := by
  have e : L.take k = List.replicate k x := by
    refine List.eq_replicate_iff.2 ⟨by rw [List.length_take]; omega, fun y hy => ?_⟩
    obtain ⟨i, hi, rfl⟩ := List.getElem_of_mem hy
    rw [List.length_take] at hi
    have := h i (by omega)
    rw [nth_get (by omega)] at this
    rw [List.getElem_take]
    exact this
  conv => lhs; rw [← List.take_append_drop k L, e]
theorem grp_head (L : List Int) : ∀ p ∈ (grp L).head?, p.2 = nth L 0 := by
  cases L with
  | nil => intro p hp; cases hp
  | cons x L =>
    intro p hp
    show p.2 = x
    unfold grp at hp
    cases hg : grp L with
    | nil =>
      rw [hg] at hp
      have : p = (1, x) := by simpa [join1] using hp.symm
      rw [this]
    | cons q g =>
      obtain ⟨j, y⟩ := q
      rw [hg] at hp
      by_cases e : y = x
      · subst e
        rw [join1_same] at hp
        have : p = (j + 1, y) := by simpa using hp.symm
        rw [this]
      · rw [join1_other e] at hp
        have : p = (1, x) := by simpa using hp.symm
        rw [this]
theorem grp_run {L : List Int} {k : Nat} (h : Run L k) : grp L = (k, nth L 0) :: grp (L.drop k) := by
  obtain ⟨h0, h1, h2, h3⟩ := h
  obtain ⟨j, rfl⟩ : ∃ j, k = j + 1 := ⟨k - 1, by omega⟩
  conv => lhs; rw [rep_of h1 h2]
  refine grp_rep j (nth L 0) (L.drop (j + 1)) _ rfl fun p hp => ?_
  have e := grp_head (L.drop (j + 1)) p hp
  have hne : L.drop (j + 1) ≠ [] := by intro e; rw [e] at hp; cases hp
  have hl : j + 1 < L.length := by
    rcases Nat.lt_or_ge (j + 1) L.length with h | h
    · exact h
    · exact absurd (List.drop_eq_nil_of_le h) hne
  rw [e, nth_drop]
  exact h3 hl
theorem run_uniq {L : List Int} {k j : Nat} (h : Run L k) (g : Run L j) : k = j := by
  have e := (grp_run h).symm.trans (grp_run g)
  have := (List.cons.inj e).1
  exact (Prod.mk.inj this).1
/-- The bytes of the runs up to k numbers: what is still to come is those of the others. -/
theorem runs_next {L : List Int} {k : Nat} (h : Run L k) : (grp L).flatMap encR = (encU k ++ encI (nth L 0)) ++ (grp (L.drop k)).flatMap encR := by
  rw [grp_run h]
  simp [encR]
theorem low_next {L : List Int} {k : Nat} (h0 : 0 < k) (h : k < L.length) : low (L.take (k + 1)) = min (low (L.take k)) (nth L k) := by
  rw [take_next h]
  cases L with
  | nil => simp at h
  | cons x L =>
    obtain ⟨j, rfl⟩ : ∃ j, k = j + 1 := ⟨k - 1, by omega⟩
    simp only [List.take_succ_cons, List.cons_append, low, List.foldl_append, List.foldl_cons, List.foldl_nil]
theorem low_one {L : List Int} (h : 0 < L.length) : low (L.take 1) = nth L 0 := by
  cases L with
  | nil => simp at h
  | cons x L => rfl
theorem take_ne {L : List Int} {k : Nat} (h0 : 0 < k) (h : k ≤ L.length) : L.take k ≠ [] := by
  intro e
  have := congrArg List.length e
  rw [List.length_take, List.length_nil] at this
  omega
theorem low_i64 {L : List Int} (hL : ∀ x ∈ L, I64 x) (h : 0 < L.length) : I64 (low L) := hL _ (low_mem L (by intro e; rw [e] at h; simp at h))
theorem lowt_i64 {L : List Int} (hL : ∀ x ∈ L, I64 x) {k : Nat} (h0 : 0 < k) (h : k ≤ L.length) : I64 (low (L.take k)) := hL _ (List.mem_of_mem_take (low_mem _ (take_ne h0 h)))
theorem off_nth {L : List Int} {i : Nat} (h : i < L.length) : ((off L i : Nat) : Int) = nth L i - low L := by
  have := low_le L _ (nth_mem h)
  unfold off
  rw [List.getD, List.getElem?_eq_getElem h]
  rw [nth_get h] at this ⊢
  simp only [Option.getD_some]
  omega
/-- A difference as the program computes it. -/
theorem off_wrap {L : List Int} (hL : ∀ x ∈ L, I64 x) {i : Nat} (h : i < L.length) : IntKind.u64.wrap (IntKind.u64.wrap (nth L i) - IntKind.u64.wrap (low L)) = ((off L i : Nat) : Int) := by
  have h1 := nth_i64 hL h
  have h2 := low_i64 hL (by omega)
  have h3 := off_nth h
  have h4 := low_le L _ (nth_mem h)
  unfold I64 at h1 h2
  rw [h3]
  simp only [IntKind.wrap_u64]
  omega
/-- A sum as the program computes it. -/
theorem sum_wrap {x : Int} {n : Nat} : wrap64 (IntKind.u64.wrap (IntKind.u64.wrap x + (n : Int))) = wrap64 (x + (n : Int)) := by
  simp only [IntKind.wrap_u64]
  unfold wrap64
  omega
theorem len_grp (L : List Int) : (grp L).length ≤ L.length := by
  induction L with
  | nil => simp [grp]
  | cons x L ih =>
    have e : grp (x :: L) = join1 x (grp L) := rfl
    rw [e]
    cases hg : grp L with
    | nil => simp [join1]
    | cons q g =>
      obtain ⟨j, y⟩ := q
      rw [hg] at ih
      by_cases h : y = x
      · subst h
        rw [join1_same]
        simp at ih ⊢
        omega
      · rw [join1_other h]
        simp at ih ⊢
        omega
theorem len_encR (g : List (Nat × Int)) : (g.flatMap encR).length ≤ 18 * g.length := by
  induction g with
  | nil => simp
  | cons p g ih =>
    have h1 := Ty.encU_len9 p.1
    have h2 := len_encI p.2
    simp only [List.flatMap_cons, List.length_append, List.length_cons, encR]
    omega
theorem len_runs (L : List Int) : ((grp L).flatMap encR).length ≤ 18 * L.length := by
  have h1 := len_encR (grp L)
  have h2 := len_grp L
  omega
end Go.Proofs.Ytfkdkdkdpenblaa.Ig

namespace Go.Proofs.Ytfkdkdkdpenblaa
open Go.RowKit
open Ig (nth encI encR grp diffs prv low)
/-- The numbers L lie one behind the other below block B. -/
structure Ig.At (B : Nat) (w : World) (v : Value) (L : List Int) : Prop where
  is : ∃ a c, v = .slice a L.length c ∧ L.length ≤ c ∧ B ≤ w.heap.size ∧ (L = [] ∨ ∃ b o, a = some ⟨b, o, none⟩ ∧ b < B ∧ ∀ i, i < L.length → w.cell? ⟨b, o + i, none⟩ = some (.int .i64 (nth L i)))
theorem Ig.At.below {B : Nat} {w w' : World} {v : Value} {L : List Int} (h : Ig.At B w v L) (g : Below B w w') : Ig.At B w' v L := by
  obtain ⟨a, c, rfl, hc, hB, h⟩ := h
  refine ⟨a, c, rfl, hc, Nat.le_trans hB g.size, ?_⟩
  rcases h with h | ⟨b, o, rfl, hlt, h⟩
  · exact .inl h
  · exact .inr ⟨b, o, rfl, hlt, fun i hi => (g.cell (p := ⟨b, o + i, none⟩) hlt).trans (h i hi)⟩
theorem Ig.At.mono {B B' : Nat} {w : World} {v : Value} {L : List Int} (h : Ig.At B w v L) (h1 : B ≤ B') (h2 : B' ≤ w.heap.size) : Ig.At B' w v L := by
  obtain ⟨a, c, rfl, hc, hB, h⟩ := h
  refine ⟨a, c, rfl, hc, h2, ?_⟩
  rcases h with h | ⟨b, o, rfl, hlt, h⟩
  · exact .inl h
  · exact .inr ⟨b, o, rfl, by omega, h⟩
/-- A function as a value. -/
def Ig.fn (k : Nat) : Value := .func (.func k) #[] #[]
theorem Ig.take_full {w w' : World} {base : Nat} {v v' : Value} (g : Ty.Grew w w' v v') (hb : base ≤ w.heap.size) (hv : ∀ k, v.ownBlock = some k → base ≤ k) : Below base w w' := g.below hb hv
end Go.Proofs.Ytfkdkdkdpenblaa
