/-
  The plain mathematics of package kinds: values and their order. No program.
-/
import Derived.Test.YtdjnjhlcdcmeaaaRows
import GoSem.Op.String
namespace Go.Proofs.Ytdjnjhlcdcmeaaa.Kn
open Go
theorem bl_irrefl : ∀ l : List UInt8, Op.bytesLess l l = false
  | [] => rfl
  | a :: l => by simp [Op.bytesLess, bl_irrefl l]
theorem bl_total : ∀ a b : List UInt8, Op.bytesLess a b = true ∨ a = b ∨ Op.bytesLess b a = true
  | [], [] => .inr (.inl rfl)
  | [], _ :: _ => .inl rfl
  | _ :: _, [] => .inr (.inr rfl)
  | a :: x, b :: y => by
    rcases Nat.lt_trichotomy a.toNat b.toNat with h | h | h
    · left; simp [Op.bytesLess, UInt8.lt_iff_toNat_lt, h]
    · have e : a = b := UInt8.toNat_inj.1 h
      subst e
      rcases bl_total x y with g | g | g
      · left; simp [Op.bytesLess, g]
      · right; left; rw [g]
      · right; right; simp [Op.bytesLess, g]
    · right; right; simp [Op.bytesLess, UInt8.lt_iff_toNat_lt, h]
theorem bl_trans : ∀ a b c : List UInt8, Op.bytesLess a b = true → Op.bytesLess b c = true → Op.bytesLess a c = true
  | _, [], _, h, _ => by simp [Op.bytesLess] at h
  | _, _ :: _, [], _, h => by simp [Op.bytesLess] at h
  | [], _ :: _, _ :: _, _, _ => rfl
  | a :: x, b :: y, c :: z, h, k => by
    simp only [Op.bytesLess, Bool.or_eq_true, decide_eq_true_eq, Bool.and_eq_true, beq_iff_eq, UInt8.lt_iff_toNat_lt] at h k ⊢
    rcases h with h | ⟨rfl, h⟩ <;> rcases k with k | ⟨rfl, k⟩
    · left; omega
    · left; exact h
    · left; exact k
    · right; exact ⟨rfl, bl_trans x y z h k⟩
theorem bl_asymm (a b : List UInt8) (h : Op.bytesLess a b = true) : Op.bytesLess b a = false := by
  cases hb : Op.bytesLess b a with
  | false => rfl
  | true => have := bl_trans a b a h hb; rw [bl_irrefl] at this; cases this
/-- A value. -/
structure V where
  null : Bool
  n : Int
  s : ByteArray
/-- as the program has it -/
abbrev V.val (v : V) : Value := .agg #[.bool v.null, .int .i64 v.n, .string v.s]
def ncmp (a b : Int) : Int := if a < b then -1 else if b < a then 1 else 0
def lcmp (a b : List UInt8) : Int := if Op.bytesLess a b = true then -1 else if Op.bytesLess b a = true then 1 else 0
def scmp (a b : ByteArray) : Int := lcmp a.toList b.toList
def or2 (x y : Int) : Int := if x = 0 then y else x
/-- The order of values. -/
def cmp (a b : V) : Int := if a.null = true then (if b.null = true then 0 else -1) else if b.null = true then 1 else or2 (ncmp a.n b.n) (scmp a.s b.s)
/-- What a way to compare three things keeps. -/
structure Fair (x y z x' y' z' : Int) : Prop where
  xr : -1 ≤ x ∧ x ≤ 1
  yr : -1 ≤ y ∧ y ≤ 1
  zr : -1 ≤ z ∧ z ≤ 1
  xa : x' = -x
  ya : y' = -y
  za : z' = -z
  le : x ≤ 0 → y ≤ 0 → z ≤ 0
  lt : x ≤ 0 → y ≤ 0 → z = 0 → x = 0 ∧ y = 0
  ge : x ≥ 0 → y ≥ 0 → z ≥ 0
  gt : x ≥ 0 → y ≥ 0 → z = 0 → x = 0 ∧ y = 0
theorem ncmp_fair (a b c : Int) : Fair (ncmp a b) (ncmp b c) (ncmp a c) (ncmp b a) (ncmp c b) (ncmp c a) := by
  unfold ncmp
  constructor <;> (repeat' split) <;> omega
theorem bl_ne {a b : List UInt8} (h : Op.bytesLess a b = true) : Op.bytesLess b a = false ∧ a ≠ b := ⟨bl_asymm a b h, fun e => by rw [e, bl_irrefl] at h; cases h⟩
theorem lcmp_lt {a b : List UInt8} (h : Op.bytesLess a b = true) : lcmp a b = -1 ∧ lcmp b a = 1 := by simp [lcmp, h, bl_asymm a b h]
theorem lcmp_self (a : List UInt8) : lcmp a a = 0 := by simp [lcmp, bl_irrefl]
theorem lcmp_anti (a b : List UInt8) : lcmp b a = -lcmp a b ∧ -1 ≤ lcmp a b ∧ lcmp a b ≤ 1 := by
  rcases bl_total a b with h | rfl | h
  · rw [(lcmp_lt h).1, (lcmp_lt h).2]; omega
  · rw [lcmp_self]; omega
  · rw [(lcmp_lt h).1, (lcmp_lt h).2]; omega
theorem lcmp_chain (a b c : List UInt8) (h1 : lcmp a b ≤ 0) (h2 : lcmp b c ≤ 0) : lcmp a c ≤ 0 ∧ (lcmp a c = 0 → lcmp a b = 0 ∧ lcmp b c = 0) := by
  rcases bl_total a b with h | rfl | h
  · rcases bl_total b c with k | rfl | k
    · have := (lcmp_lt (bl_trans a b c h k)).1
      omega
    · rw [lcmp_self]; omega
    · have := (lcmp_lt k).2; omega
  · rw [lcmp_self]; omega
  · have := (lcmp_lt h).2; omega
theorem lcmp_fair (a b c : List UInt8) : Fair (lcmp a b) (lcmp b c) (lcmp a c) (lcmp b a) (lcmp c b) (lcmp c a) := by
  have h1 := lcmp_anti a b
  have h2 := lcmp_anti b c
  have h3 := lcmp_anti a c
  have h4 := lcmp_chain a b c
  have h5 := lcmp_chain c b a
  constructor <;> omega
theorem lex_fair {x y z x' y' z' p q r p' q' r' : Int} (h : Fair x y z x' y' z') (k : Fair p q r p' q' r') : Fair (or2 x p) (or2 y q) (or2 z r) (or2 x' p') (or2 y' q') (or2 z' r') := by
  obtain ⟨⟨h1, h2⟩, ⟨h3, h4⟩, ⟨h5, h6⟩, rfl, rfl, rfl, h10, h11, h12, h13⟩ := h
  obtain ⟨⟨k1, k2⟩, ⟨k3, k4⟩, ⟨k5, k6⟩, rfl, rfl, rfl, k10, k11, k12, k13⟩ := k
  unfold or2
  constructor <;> (repeat' split) <;> omega
theorem cmp_fair (a b c : V) : Fair (cmp a b) (cmp b c) (cmp a c) (cmp b a) (cmp c b) (cmp c a) := by
  have h := lex_fair (ncmp_fair a.n b.n c.n) (show Fair (scmp a.s b.s) (scmp b.s c.s) (scmp a.s c.s) (scmp b.s a.s) (scmp c.s b.s) (scmp c.s a.s) from lcmp_fair a.s.toList b.s.toList c.s.toList)
  unfold cmp
  cases a.null <;> cases b.null <;> cases c.null <;> simp only [Bool.false_eq_true, if_false, if_true]
  · exact h
  all_goals
    obtain ⟨⟨h1, h2⟩, ⟨h3, h4⟩, ⟨h5, h6⟩, h7, h8, h9, h10, h11, h12, h13⟩ := h
    constructor <;> omega
theorem lcmp_zero (a b : List UInt8) : lcmp a b = 0 ↔ a = b := by
  rcases bl_total a b with h | rfl | h
  · rw [(lcmp_lt h).1]; exact ⟨fun e => by omega, fun e => absurd e (bl_ne h).2⟩
  · simp [lcmp_self]
  · rw [(lcmp_lt h).2]; exact ⟨fun e => by omega, fun e => absurd e.symm (bl_ne h).2⟩
theorem ncmp_zero (a b : Int) : ncmp a b = 0 ↔ a = b := by unfold ncmp; repeat' split <;> omega
theorem or2_zero (x y : Int) : or2 x y = 0 ↔ x = 0 ∧ y = 0 := by unfold or2; split <;> omega
/-- equal, just where both are null or neither is and both fields are the same -/
def same (a b : V) : Bool := (a.null && b.null) || ((!a.null && !b.null) && a.n == b.n && a.s.toList == b.s.toList)
theorem cmp_zero (a b : V) : (cmp a b == 0) = same a b := by
  rw [Bool.eq_iff_iff, beq_iff_eq]
  unfold cmp same
  cases a.null <;> cases b.null <;> simp [or2_zero, ncmp_zero, scmp, lcmp_zero]
end Go.Proofs.Ytdjnjhlcdcmeaaa.Kn
