/-
  The plain mathematics of package kinds: values and their order. No program.
  Contracts of package kinds: which value is ahead.
  Contracts of the document's answers for kinds: which value is ahead.
  Contracts of package kinds: which schemas and rows may be.
-/
import Derived.Test.YtcognkgabdaneaaGreatDoorRows
import GoSem.Op.String
import Derived.WalkKit
import Derived.WalkSpells
import Derived.WalkLawsBesides
import Derived.Laws.StructEq
import Derived.Lib.QuietBelow
import Derived.Deep.RegionWith
import Derived.Deep.DeepCutAuto
import Derived.BigQuiet
import Derived.StillTailTactics
import Derived.Lib.Hide
import Derived.Deep.QuietTactic
import Derived.IntWalk
namespace Go.Proofs.YtcognkgabdaneaaGreatDoor.Kn
open Go
theorem bl_irrefl : ∀ l : List UInt8, Op.bytesLess l l = false
  | [] => rfl
  | a :: l => by simp [Op.bytesLess, bl_irrefl l]
theorem bl_total : ∀ a b : List UInt8, Op.bytesLess a b = true ∨ a = b ∨ Op.bytesLess b a = true
  | [], [] => .inr (.inl rfl)
  | [], _ :: _ => .inl rfl
  | _ :: _, [] => .inr (.inr rfl)
  | a :: x, b :: y => by
    rcases Nat.lt_trichotomy a.toNat b.toNat with h | h | h
    · left; simp [Op.bytesLess, UInt8.lt_iff_toNat_lt, h]
    · have e : a = b := UInt8.toNat_inj.1 h
      subst e
      rcases bl_total x y with g | g | g
      · left; simp [Op.bytesLess, g]
      · right; left; rw [g]
      · right; right; simp [Op.bytesLess, g]
    · right; right; simp [Op.bytesLess, UInt8.lt_iff_toNat_lt, h]
theorem bl_trans : ∀ a b c : List UInt8, Op.bytesLess a b = true → Op.bytesLess b c = true → Op.bytesLess a c = true
  | _, [], _, h, _ => by simp [Op.bytesLess] at h
  | _, _ :: _, [], _, h => by simp [Op.bytesLess] at h
  | [], _ :: _, _ :: _, _, _ => rfl
  | a :: x, b :: y, c :: z, h, k => by
    simp only [Op.bytesLess, Bool.or_eq_true, decide_eq_true_eq, Bool.and_eq_true, beq_iff_eq, UInt8.lt_iff_toNat_lt] at h k ⊢
    rcases h with h | ⟨rfl, h⟩ <;> rcases k with k | ⟨rfl, k⟩
    · left; omega
    · left; exact h
    · left; exact k
    · right; exact ⟨rfl, bl_trans x y z h k⟩
theorem bl_asymm (a b : List UInt8) (h : Op.bytesLess a b = true) : Op.bytesLess b a = false := by
  cases hb : Op.bytesLess b a with
  | false => rfl
  | true => have := bl_trans a b a h hb; rw [bl_irrefl] at this; cases this
/-- A value. -/
structure V where
  null : Bool
  n : Int
  s : ByteArray
/-- as the program has it -/
abbrev V.val (v : V) : Value := .agg #[.bool v.null, .int .i64 v.n, .string v.s]
def ncmp (a b : Int) : Int := if a < b then -1 else if b < a then 1 else 0
def lcmp (a b : List UInt8) : Int := if Op.bytesLess a b = true then -1 else if Op.bytesLess b a = true then 1 else 0
def scmp (a b : ByteArray) : Int := lcmp a.toList b.toList
def or2 (x y : Int) : Int := if x = 0 then y else x
/-- The order of values. -/
def cmp (a b : V) : Int := if a.null = true then (if b.null = true then 0 else -1) else if b.null = true then 1 else or2 (ncmp a.n b.n) (scmp a.s b.s)
/-- What a way to compare three things keeps. -/
structure Fair (x y z x' y' z' : Int) : Prop where
  xr : -1 ≤ x ∧ x ≤ 1
  yr : -1 ≤ y ∧ y ≤ 1
  zr : -1 ≤ z ∧ z ≤ 1
  xa : x' = -x
  ya : y' = -y
  za : z' = -z
  le : x ≤ 0 → y ≤ 0 → z ≤ 0
  lt : x ≤ 0 → y ≤ 0 → z = 0 → x = 0 ∧ y = 0
  ge : x ≥ 0 → y ≥ 0 → z ≥ 0
  gt : x ≥ 0 → y ≥ 0 → z = 0 → x = 0 ∧ y = 0
theorem ncmp_fair (a b c : Int) : Fair (ncmp a b) (ncmp b c) (ncmp a c) (ncmp b a) (ncmp c b) (ncmp c a) := by
  unfold ncmp
  constructor <;> (repeat' split) <;> omega
theorem bl_ne {a b : List UInt8} (h : Op.bytesLess a b = true) : Op.bytesLess b a = false ∧ a ≠ b := ⟨bl_asymm a b h, fun e => by rw [e, bl_irrefl] at h; cases h⟩
theorem lcmp_lt {a b : List UInt8} (h : Op.bytesLess a b = true) : lcmp a b = -1 ∧ lcmp b a = 1 := by simp [lcmp, h, bl_asymm a b h]
theorem lcmp_self (a : List UInt8) : lcmp a a = 0 := by simp [lcmp, bl_irrefl]
theorem lcmp_anti (a b : List UInt8) : lcmp b a = -lcmp a b ∧ -1 ≤ lcmp a b ∧ lcmp a b ≤ 1 := by
  rcases bl_total a b with h | rfl | h
  · rw [(lcmp_lt h).1, (lcmp_lt h).2]; omega
  · rw [lcmp_self]; omega
  · rw [(lcmp_lt h).1, (lcmp_lt h).2]; omega
theorem lcmp_chain (a b c : List UInt8) (h1 : lcmp a b ≤ 0) (h2 : lcmp b c ≤ 0) : lcmp a c ≤ 0 ∧ (lcmp a c = 0 → lcmp a b = 0 ∧ lcmp b c = 0) := by
  rcases bl_total a b with h | rfl | h
  · rcases bl_total b c with k | rfl | k
    · have := (lcmp_lt (bl_trans a b c h k)).1
      omega
    · rw [lcmp_self]; omega
    · have := (lcmp_lt k).2; omega
  · rw [lcmp_self]; omega
  · have := (lcmp_lt h).2; omega
theorem lcmp_fair (a b c : List UInt8) : Fair (lcmp a b) (lcmp b c) (lcmp a c) (lcmp b a) (lcmp c b) (lcmp c a) := by
  have h1 := lcmp_anti a b
  have h2 := lcmp_anti b c
  have h3 := lcmp_anti a c
  have h4 := lcmp_chain a b c
  have h5 := lcmp_chain c b a
  constructor <;> omega
theorem lex_fair {x y z x' y' z' p q r p' q' r' : Int} (h : Fair x y z x' y' z') (k : Fair p q r p' q' r') : Fair (or2 x p) (or2 y q) (or2 z r) (or2 x' p') (or2 y' q') (or2 z' r') := by
  obtain ⟨⟨h1, h2⟩, ⟨h3, h4⟩, ⟨h5, h6⟩, rfl, rfl, rfl, h10, h11, h12, h13⟩ := h
  obtain ⟨⟨k1, k2⟩, ⟨k3, k4⟩, ⟨k5, k6⟩, rfl, rfl, rfl, k10, k11, k12, k13⟩ := k
  unfold or2
  constructor <;> (repeat' split) <;> omega
theorem cmp_fair (a b c : V) : Fair (cmp a b) (cmp b c) (cmp a c) (cmp b a) (cmp c b) (cmp c a) := by
  have h := lex_fair (ncmp_fair a.n b.n c.n) (show Fair (scmp a.s b.s) (scmp b.s c.s) (scmp a.s c.s) (scmp b.s a.s) (scmp c.s b.s) (scmp c.s a.s) from lcmp_fair a.s.toList b.s.toList c.s.toList)
  unfold cmp
  cases a.null <;> cases b.null <;> cases c.null <;> simp only [Bool.false_eq_true, if_false, if_true]
  · exact h
  all_goals
    obtain ⟨⟨h1, h2⟩, ⟨h3, h4⟩, ⟨h5, h6⟩, h7, h8, h9, h10, h11, h12, h13⟩ := h
    constructor <;> omega
theorem lcmp_zero (a b : List UInt8) : lcmp a b = 0 ↔ a = b := by
  rcases bl_total a b with h | rfl | h
  · rw [(lcmp_lt h).1]; exact ⟨fun e => by omega, fun e => absurd e (bl_ne h).2⟩
  · simp [lcmp_self]
  · rw [(lcmp_lt h).2]; exact ⟨fun e => by omega, fun e => absurd e.symm (bl_ne h).2⟩
theorem ncmp_zero (a b : Int) : ncmp a b = 0 ↔ a = b := by unfold ncmp; repeat' split <;> omega
theorem or2_zero (x y : Int) : or2 x y = 0 ↔ x = 0 ∧ y = 0 := by unfold or2; split <;> omega
/-- equal, just where both are null or neither is and both fields are the same -/
def same (a b : V) : Bool := (a.null && b.null) || ((!a.null && !b.null) && a.n == b.n && a.s.toList == b.s.toList)
theorem cmp_zero (a b : V) : (cmp a b == 0) = same a b := by
  rw [Bool.eq_iff_iff, beq_iff_eq]
  unfold cmp same
  cases a.null <;> cases b.null <;> simp [or2_zero, ncmp_zero, scmp, lcmp_zero]
end Go.Proofs.YtcognkgabdaneaaGreatDoor.Kn

namespace Go.Proofs.YtcognkgabdaneaaGreatDoor
open Go.RowKit
theorem Kn.isNaNs_c (a : ByteArray) (w : World) : Calls Tryz.prog 144 #[.string a] w fun e w' => e = .returned (.bool false) ∧ w' = w := by
  go_enter Tryz.func144, Tryz.ntmps144
  go_wp2
  go_ret
  exact ⟨rfl, rfl⟩
theorem Kn.new2 (w : World) (x y : Value) (t : TypeId) (b : Nat) (hb : b = w.heap.size) : (w.alloc (.cells #[x, y] t)).drew.cell? ⟨b, 0, none⟩ = some x ∧ (w.alloc (.cells #[x, y] t)).drew.cell? ⟨b, 1, none⟩ = some y := by
  subst hb
  have h := heap_alloc_new w (.cells #[x, y] t)
  show (w.alloc (.cells #[x, y] t)).cell? ⟨w.heap.size, 0, none⟩ = some x ∧ (w.alloc (.cells #[x, y] t)).cell? ⟨w.heap.size, 1, none⟩ = some y
  unfold World.cell?
  simp only [h]
  exact ⟨rfl, rfl⟩
end Go.Proofs.YtcognkgabdaneaaGreatDoor

namespace Go.Proofs.YtcognkgabdaneaaGreatDoor
open Go.RowKit
theorem Kn.below_drewN {B : Nat} {w w' : World} (h : Below B w w') (n : Nat) : Below B w (w'.drewN n) := ⟨h.os, h.tape, h.output, h.size, h.block⟩
/-- The value lies in the cells from this place on. -/
structure Kn.At (w : World) (b o : Nat) (v : Kn.V) : Prop where
  c0 : w.cell? ⟨b, o, none⟩ = some (.bool v.null)
  c1 : w.cell? ⟨b, o + 1, none⟩ = some (.int .i64 v.n)
  c2 : w.cell? ⟨b, o + 2, none⟩ = some (.string v.s)
theorem Kn.At.lt {w : World} {b o : Nat} {v : Kn.V} (h : Kn.At w b o v) : b < w.heap.size := World.block_lt_of_cell? w _ h.c0
theorem Kn.At.later {w w' : World} {b o : Nat} {v : Kn.V} (h : Kn.At w b o v) (g : Below w.heap.size w w') : Kn.At w' b o v :=
  ⟨(g.cell (p := ⟨b, o, none⟩) h.lt).trans h.c0, (g.cell (p := ⟨b, o + 1, none⟩) h.lt).trans h.c1, (g.cell (p := ⟨b, o + 2, none⟩) h.lt).trans h.c2⟩
theorem Kn.cell_new (w : World) (cs : Array Value) (t : TypeId) (i : Nat) (v : Value) (h : cs[i]? = some v) : (w.alloc (.cells cs t)).cell? ⟨w.heap.size, i, none⟩ = some v := by
  have e := heap_alloc_new w (.cells cs t)
  unfold World.cell?
  simp only [e]
  exact h
theorem Kn.At.new (w : World) (v : Kn.V) (t : TypeId) : Kn.At (w.alloc (.cells #[.bool v.null, .int .i64 v.n, .string v.s] t)) w.heap.size 0 v :=
  ⟨Kn.cell_new w _ t 0 _ rfl, Kn.cell_new w _ t 1 _ rfl, Kn.cell_new w _ t 2 _ rfl⟩
theorem Kn.At.alloc {w : World} {b o : Nat} {v : Kn.V} (h : Kn.At w b o v) (x : Obj) : Kn.At (w.alloc x) b o v := h.later ((Below.refl _ w).alloc (Nat.le_refl _) x)
/-- Two values boxed, one behind the other. -/
theorem Kn.boxed2 (w : World) (a b : Kn.V) (t t' : TypeId) : Kn.At ((w.alloc (.cells #[.bool a.null, .int .i64 a.n, .string a.s] t)).alloc (.cells #[.bool b.null, .int .i64 b.n, .string b.s] t')) w.heap.size 0 a ∧
    Kn.At ((w.alloc (.cells #[.bool a.null, .int .i64 a.n, .string a.s] t)).alloc (.cells #[.bool b.null, .int .i64 b.n, .string b.s] t')) (w.heap.size + 1) 0 b := by
  refine ⟨(Kn.At.new w a t).alloc _, ?_⟩
  have := Kn.At.new (w.alloc (.cells #[.bool a.null, .int .i64 a.n, .string a.s] t)) b t'
  rwa [World.size_alloc] at this
/-- The value's text is no longer than a machine can hold. -/
def Kn.Z (a : Kn.V) : Prop := a.s.size ≤ 140737488351232
theorem Kn.len_toList (s : ByteArray) : s.toList.length = s.size := by
  rw [ByteArray.toList_eq]
  exact Array.length_toList
theorem Kn.at_toList (s : ByteArray) (k : Nat) (h : k < s.size) : s.toList.drop k = s[k] :: s.toList.drop (k + 1) := by
  have hl : k < s.toList.length := by rw [Kn.len_toList]; exact h
  rw [List.drop_eq_getElem_cons hl]
  congr 1
  rw [List.getElem_of_eq (ByteArray.toList_eq s)]
  rfl
theorem Kn.bl_step (x y : UInt8) (l m : List UInt8) : ((((x.toNat : Int) != (y.toNat : Int)) = true ∧ Op.bytesLess (x :: l) (y :: m) = decide (x.toNat < y.toNat)) ∨ (((x.toNat : Int) != (y.toNat : Int)) = false ∧ Op.bytesLess (x :: l) (y :: m) = Op.bytesLess l m)) := by
  by_cases h : x = y
  · subst h
    right
    simp [Op.bytesLess]
  · left
    have hn : x.toNat ≠ y.toNat := fun e => h (UInt8.toNat_inj.1 e)
    refine ⟨by rw [bne_iff_ne]; omega, ?_⟩
    simp [Op.bytesLess, h, UInt8.lt_iff_toNat_lt]
theorem Kn.bl_end (a b : ByteArray) (k : Nat) (ha : k ≤ a.size) (hb : k ≤ b.size) (h : ¬ k < a.size ∨ ¬ k < b.size) : Op.bytesLess (a.toList.drop k) (b.toList.drop k) = decide (a.size < b.size) := by
  by_cases h1 : k < b.size
  · have e : a.toList.drop k = [] := List.drop_eq_nil_of_le (by rw [Kn.len_toList]; omega)
    rw [e, Kn.at_toList b k h1]
    rw [decide_eq_true (by omega)]
    rfl
  · have e : b.toList.drop k = [] := List.drop_eq_nil_of_le (by rw [Kn.len_toList]; omega)
    rw [e, decide_eq_false (by omega)]
    cases List.drop k a.toList <;> rfl
set_option maxHeartbeats 1000000 in
theorem Kn.rahead_c (a b : ByteArray) (ha : a.size ≤ 140737488351232) (hb : b.size ≤ 140737488351232) (w : World) :
    Calls Tryz.prog 140 #[.string a, .string b] w fun e w' => e = .returned (.bool (Op.bytesLess a.toList b.toList)) ∧ ∃ n, w' = w.drewN n := by
  go_enter Tryz.func140, Tryz.ntmps140
  go_wp2
  go_loopw [5] (fun i wr => ∃ k : Nat, k ≤ a.size ∧ k ≤ b.size ∧ i = .int .i64 k ∧ Op.bytesLess a.toList b.toList = Op.bytesLess (a.toList.drop k) (b.toList.drop k) ∧ ∃ n, wr = w.drewN n) (fun i _ => a.size - (intOf i).toNat)
  case atStart => exact ⟨0, by omega, by omega, rfl, rfl, 0, rfl⟩
  case round =>
    obtain ⟨k, hka, hkb, rfl, hl, n, rfl⟩ := hrel
    by_cases h1 : k < a.size
    · by_cases h2 : k < b.size
      · have d1 : (k : Int) < (a.size : Int) := by omega
        have d2 : (k : Int) < (b.size : Int) := by omega
        have d0 : 0 ≤ (k : Int) := by omega
        rw [Kn.at_toList a k h1, Kn.at_toList b k h2] at hl
        have HL := Lib.hid hl
        clear hl
        rcases Kn.bl_step a[k] b[k] (a.toList.drop (k + 1)) (b.toList.drop (k + 1)) with ⟨h3, h4⟩ | ⟨h3, h4⟩
        · have H4 := Lib.hid h4
          clear h4
          go_wp2_with fail
          go_quiet (fail)
          go_wp2_with fail
          go_quiet (fail)
          go_wp2
          go_ret
          exact ⟨congrArg (fun x => Ending.returned (.bool x)) (HL.out.trans H4.out).symm, _, by rw [World.drewN_drewN, World.drewN_drewN]⟩
        · have H4 := Lib.hid h4
          clear h4
          go_wp2_with fail
          go_quiet (fail)
          go_wp2
          go_roundw
          case rel => exact ⟨k + 1, by omega, by omega, by simp, by rw [HL.out, H4.out], _, rfl⟩
          case measure => simp [intOf]; omega
      · have d1 : (k : Int) < (a.size : Int) := by omega
        have d2 : ¬ (k : Int) < (b.size : Int) := by omega
        go_wp2
        go_ret
        exact ⟨congrArg (fun x => Ending.returned (.bool x)) (Kn.bl_end a b k hka hkb (.inr h2)).symm, _, rfl⟩
    · have d1 : ¬ (k : Int) < (a.size : Int) := by omega
      go_wp2
      go_ret
      exact ⟨congrArg (fun x => Ending.returned (.bool x)) (Kn.bl_end a b k hka hkb (.inl h1)).symm, _, rfl⟩
/-- The document's answer: what is ahead. -/
theorem Kn.ahead_is (a b : Kn.V) : (decide (Kn.cmp a b < 0)) = (if a.null = true then !b.null else if b.null = true then false else if (a.n != b.n) = true then decide (a.n < b.n) else Op.bytesLess a.s.toList b.s.toList) := by
  unfold Kn.cmp
  cases a.null <;> cases b.null <;> simp only [Bool.false_eq_true, if_false, if_true]
  · by_cases h : a.n = b.n
    · rw [h]
      have e : Kn.ncmp b.n b.n = 0 := (Kn.ncmp_zero _ _).2 rfl
      rw [e]
      have e2 : (b.n != b.n) = false := by simp
      rw [e2, if_neg (by simp)]
      show decide (Kn.lcmp a.s.toList b.s.toList < 0) = _
      unfold Kn.lcmp
      cases Op.bytesLess a.s.toList b.s.toList
      · cases Op.bytesLess b.s.toList a.s.toList <;> rfl
      · rfl
    · have e : Kn.ncmp a.n b.n ≠ 0 := fun e => h ((Kn.ncmp_zero _ _).1 e)
      have e2 : (a.n != b.n) = true := by rw [bne_iff_ne]; exact h
      rw [if_pos e2]
      unfold Kn.or2
      rw [if_neg e, Bool.eq_iff_iff, decide_eq_true_iff, decide_eq_true_iff]
      unfold Kn.ncmp
      repeat' split <;> omega
  all_goals rfl
set_option maxHeartbeats 1000000 in
theorem Kn.rAhead_c (a b : Kn.V) (ha : Kn.Z a) (hb : Kn.Z b) (w : World) :
    Calls Tryz.prog 125 #[a.val, b.val] w fun e w' => e = .returned (.bool (decide (Kn.cmp a b < 0))) ∧ Below w.heap.size w w' := by
  rw [Kn.ahead_is]
  obtain ⟨an, ai, sa⟩ := a
  obtain ⟨bn, bi, sb⟩ := b
  unfold Kn.V.val
  cases an <;> cases bn
  · rcases Bool.eq_false_or_eq_true (ai != bi) with h | h
    · show Calls _ _ _ _ fun e w' => e = .returned (.bool (if (ai != bi) = true then decide (ai < bi) else Op.bytesLess sa.toList sb.toList)) ∧ _
      rw [if_pos h]
      go_enter Tryz.func125, Tryz.ntmps125
      go_wp2
      go_ret
      exact ⟨rfl, ((Below.refl _ w).alloc (Nat.le_refl _) _).alloc (by simp) _⟩
    · show Calls _ _ _ _ fun e w' => e = .returned (.bool (if (ai != bi) = true then decide (ai < bi) else Op.bytesLess sa.toList sb.toList)) ∧ _
      rw [if_neg (by rw [h]; simp)]
      go_enter Tryz.func125, Tryz.ntmps125
      go_wp2_with fail
      refine (Kn.rahead_c sa sb ha hb _).mono ?_
      rintro e w1 ⟨rfl, n, rfl⟩
      go_wp2
      go_ret
      exact ⟨rfl, Kn.below_drewN (((Below.refl _ w).alloc (Nat.le_refl _) _).alloc (by simp) _) n⟩
  all_goals
    go_enter Tryz.func125, Tryz.ntmps125
    go_wp2
    go_ret
    exact ⟨rfl, ((Below.refl _ w).alloc (Nat.le_refl _) _).alloc (by simp) _⟩
end Go.Proofs.YtcognkgabdaneaaGreatDoor

namespace Go.Proofs.YtcognkgabdaneaaGreatDoor
open Go.RowKit
/-- A column: its kind, whether it may be null. -/
structure Kn.C where
  k : Int
  null : Bool
abbrev Kn.C.val (c : Kn.C) : Value := .agg #[.int .i64 c.k, .bool c.null]
/-- Columns that lie one behind the other. -/
structure Kn.Cols (w : World) (v : Value) (l : List Kn.C) : Prop where
  is : ∃ a c, v = .slice a l.length c ∧ (l = [] ∨ ∃ b o, a = some ⟨b, o, none⟩ ∧ b < w.heap.size ∧ l.length ≤ 9223372036854775807 ∧
    ∀ i x, l[i]? = some x → w.cell? ⟨b, o + i * 2, none⟩ = some (.int .i64 x.k) ∧ w.cell? ⟨b, o + i * 2 + 1, none⟩ = some (.bool x.null))
/-- Values that lie one behind the other. -/
structure Kn.Vals (w : World) (v : Value) (l : List Kn.V) : Prop where
  is : ∃ a c, v = .slice a l.length c ∧ (l = [] ∨ ∃ b o, a = some ⟨b, o, none⟩ ∧ b < w.heap.size ∧ l.length ≤ 9223372036854775807 ∧ ∀ i x, l[i]? = some x → Kn.At w b (o + i * 3) x)
theorem Kn.Cols.later {w w' : World} {v : Value} {l : List Kn.C} (h : Kn.Cols w v l) (g : Below w.heap.size w w') : Kn.Cols w' v l := by
  obtain ⟨a, c, rfl, h⟩ := h
  refine ⟨a, c, rfl, ?_⟩
  rcases h with h | ⟨b, o, rfl, hlt, hm, h⟩
  · exact .inl h
  · refine .inr ⟨b, o, rfl, Nat.lt_of_lt_of_le hlt g.size, hm, fun i x hx => ?_⟩
    exact ⟨(g.cell (p := ⟨b, o + i * 2, none⟩) hlt).trans (h i x hx).1, (g.cell (p := ⟨b, o + i * 2 + 1, none⟩) hlt).trans (h i x hx).2⟩
theorem Kn.Vals.later {w w' : World} {v : Value} {l : List Kn.V} (h : Kn.Vals w v l) (g : Below w.heap.size w w') : Kn.Vals w' v l := by
  obtain ⟨a, c, rfl, h⟩ := h
  refine ⟨a, c, rfl, ?_⟩
  rcases h with h | ⟨b, o, rfl, hlt, hm, h⟩
  · exact .inl h
  · exact .inr ⟨b, o, rfl, Nat.lt_of_lt_of_le hlt g.size, hm, fun i x hx => (h i x hx).later g⟩
/-- The kind is one of the two. -/
def Kn.C.good (c : Kn.C) : Bool := !((c.k != 1) && (c.k != 2))
/-- The first column, if there is one, has no nulls. -/
def Kn.headOk : List Kn.C → Bool
  | [] => true
  | c :: _ => !c.null
/-- Which schemas may be. -/
def Kn.right (l : List Kn.C) : Bool := decide (1 ≤ l.length) && decide (l.length ≤ 6) && Kn.headOk l && l.all Kn.C.good
/-- Which value fits a column. -/
def Kn.fits (c : Kn.C) (v : Kn.V) : Bool :=
  if v.null = true then c.null && (v.n == 0) && (v.s.toList == (⟨#[]⟩ : ByteArray).toList)
  else if c.k = 1 then v.s.toList == (⟨#[]⟩ : ByteArray).toList
  else (v.n == 0) && decide (v.s.size ≤ 64)
set_option maxHeartbeats 1000000 in
theorem Kn.fitsColumn_c (c : Kn.C) (v : Kn.V) (w : World) :
    Calls Tryz.prog 57 #[c.val, v.val] w fun e w' => e = .returned (.bool (Kn.fits c v)) ∧ Below w.heap.size w w' := by
  obtain ⟨ck, cn⟩ := c
  obtain ⟨vn, vi, vs⟩ := v
  unfold Kn.C.val Kn.V.val
  have hk : ((ck == 1) = true ∧ ck = 1) ∨ ((ck == 1) = false ∧ ck ≠ 1) := by
    by_cases h : ck = 1
    · left; exact ⟨by rw [h]; rfl, h⟩
    · right; exact ⟨by rw [beq_eq_false_iff_ne]; exact h, h⟩
  have he : (⟨#[]⟩ : ByteArray).toList = [] := by rw [ByteArray.toList_eq]
  generalize hB : Kn.fits ⟨ck, cn⟩ ⟨vn, vi, vs⟩ = B
  have HB := Lib.hid hB
  clear hB
  cases vn
  · rcases hk with ⟨hk, rfl⟩ | ⟨hk, hk2⟩
    all_goals
      go_enter Tryz.func57, Tryz.ntmps57
      go_wp2
    all_goals
      go_ret
      refine ⟨?_, ((Below.refl _ w).alloc (Nat.le_refl _) _).alloc (by simp) _⟩
      rw [← HB.out]
      simp_all [Kn.fits]
      try omega
  · cases cn
    all_goals
      go_enter Tryz.func57, Tryz.ntmps57
      go_wp2
    all_goals
      go_ret
      refine ⟨?_, ((Below.refl _ w).alloc (Nat.le_refl _) _).alloc (by simp) _⟩
      rw [← HB.out]
      simp_all [Kn.fits]
      try omega
theorem Kn.retb {x y : Bool} (h : x = y) : Ending.returned (.bool x) = Ending.returned (.bool y) := by rw [h]
theorem Kn.reti {k : IntKind} {x y : Int} (h : x = y) : Ending.returned (.int k x) = Ending.returned (.int k y) := by rw [h]
theorem Kn.right_long (l : List Kn.C) (h : 6 < l.length) : Kn.right l = false := by
  unfold Kn.right
  rw [decide_eq_false (p := l.length ≤ 6) (by omega)]
  simp
theorem Kn.right_null (l : List Kn.C) (x : Kn.C) (h : l[0]? = some x) (hn : x.null = true) : Kn.right l = false := by
  cases l with
  | nil => cases h
  | cons y t =>
    obtain rfl : y = x := by simpa using h
    simp [Kn.right, Kn.headOk, hn]
theorem Kn.right_bad (l : List Kn.C) (k : Nat) (x : Kn.C) (h : l[k]? = some x) (hb : x.good = false) : Kn.right l = false := by
  have : l.all Kn.C.good = false := by
    rw [Bool.eq_false_iff]
    intro e
    have := List.all_eq_true.1 e x (List.mem_of_getElem? h)
    rw [hb] at this; cases this
  unfold Kn.right
  rw [this]
  simp
theorem Kn.all_step (l : List Kn.C) (k : Nat) (x : Kn.C) (h : l[k]? = some x) (hg : x.good = true) (ha : (l.take k).all Kn.C.good = true) : (l.take (k + 1)).all Kn.C.good = true := by
  rw [List.take_add_one, h, List.all_append, ha]
  simp [hg]
theorem Kn.right_good (l : List Kn.C) (x : Kn.C) (h : l[0]? = some x) (hn : x.null = false) (h6 : l.length ≤ 6) (ha : (l.take l.length).all Kn.C.good = true) : Kn.right l = true := by
  cases l with
  | nil => cases h
  | cons y t =>
    obtain rfl : y = x := by simpa using h
    rw [List.take_length] at ha
    have e : Kn.headOk (y :: t) = true := by show (!y.null) = true; rw [hn]; rfl
    unfold Kn.right
    rw [ha, e, decide_eq_true (by simp), decide_eq_true h6]
    rfl
theorem Kn.good_ways (x : Kn.C) : (x.good = true ∧ (x.k != 1) = false) ∨ (x.good = true ∧ (x.k != 1) = true ∧ (x.k != 2) = false) ∨ (x.good = false ∧ (x.k != 1) = true ∧ (x.k != 2) = true) := by
  unfold Kn.C.good
  cases (x.k != 1) <;> cases (x.k != 2) <;> simp
set_option maxHeartbeats 1000000 in
theorem Kn.right_c (v : Value) (l : List Kn.C) (w : World) (h : Kn.Cols w v l) :
    Calls Tryz.prog 16 #[v] w fun e w' => e = .returned (.bool (Kn.right l)) ∧ Below w.heap.size w w' := by
  obtain ⟨a, c, rfl, h⟩ := h
  have h' : l = [] ∨ ∃ x, l[0]? = some x := by cases l with
    | nil => exact .inl rfl
    | cons x t => exact .inr ⟨x, rfl⟩
  rcases h' with rfl | ⟨x0, hx0⟩
  · go_enter Tryz.func16, Tryz.ntmps16
    go_wp2
    go_ret
    exact ⟨rfl, Below.refl _ _⟩
  · have hpos : 0 < l.length := (List.getElem?_eq_some_iff.1 hx0).1
    rcases h with rfl | ⟨b, o, rfl, hlt, hm, hc⟩
    · cases hx0
    · have d1 : ¬ (l.length : Int) < 1 := by omega
      by_cases h6 : 6 < l.length
      · have d2 : (6 : Int) < (l.length : Int) := by omega
        rw [Kn.right_long l h6]
        go_enter Tryz.func16, Tryz.ntmps16
        go_wp2
        go_ret
        exact ⟨rfl, Below.refl _ _⟩
      · have d2 : ¬ (6 : Int) < (l.length : Int) := by omega
        have d3 : (0 : Int) < (l.length : Int) := by omega
        obtain ⟨c0, c1⟩ := hc 0 x0 hx0
        rw [Nat.zero_mul, Nat.add_zero] at c0 c1
        cases hn : x0.null
        · rw [hn] at c1
          have hR := Kn.right_good l x0 hx0 hn (by omega)
          generalize hB : Kn.right l = B
          have HB := Lib.hid hB
          rw [hB] at hR
          clear hB
          go_enter Tryz.func16, Tryz.ntmps16
          go_wp2_with fail
          go_loopw [21] (fun i wr => ∃ k : Nat, k ≤ l.length ∧ i = .int .i64 k ∧ (l.take k).all Kn.C.good = true ∧ Below w.heap.size w wr) (fun i _ => l.length - (intOf i).toNat)
          case atStart => exact ⟨0, by omega, rfl, rfl, Below.refl _ _⟩
          case round =>
            obtain ⟨k, hk, rfl, hg, hb⟩ := hrel
            by_cases hkl : k < l.length
            · have hx := List.getElem?_eq_getElem hkl
              generalize l[k] = x at hx
              have e0 := (hb.cell (p := ⟨b, o + k * 2, none⟩) hlt).trans (hc k x hx).1
              have e1 := (hb.cell (p := ⟨b, o + k * 2 + 1, none⟩) hlt).trans (hc k x hx).2
              have dk : (k : Int) < (l.length : Int) := by omega
              rcases Kn.good_ways x with ⟨g, g1⟩ | ⟨g, g1, g2⟩ | ⟨g, g1, g2⟩
              · go_wp2
                go_roundw
                case rel => exact ⟨k + 1, by omega, by simp, Kn.all_step l k x hx g hg, hb.alloc hb.size _⟩
                case measure => simp [intOf]; omega
              · go_wp2
                go_roundw
                case rel => exact ⟨k + 1, by omega, by simp, Kn.all_step l k x hx g hg, hb.alloc hb.size _⟩
                case measure => simp [intOf]; omega
              · go_wp2
                go_ret
                exact ⟨Kn.retb ((Kn.right_bad l k x hx g).symm.trans HB.out), hb.alloc hb.size _⟩
            · obtain rfl : k = l.length := by omega
              have dk : ¬ (l.length : Int) < (l.length : Int) := by omega
              go_wp2
              go_ret
              exact ⟨Kn.retb (hR hg).symm, hb⟩
        · rw [hn] at c1
          rw [Kn.right_null l x0 hx0 hn]
          go_enter Tryz.func16, Tryz.ntmps16
          go_wp2
          go_ret
          exact ⟨rfl, Below.refl _ _⟩
end Go.Proofs.YtcognkgabdaneaaGreatDoor
