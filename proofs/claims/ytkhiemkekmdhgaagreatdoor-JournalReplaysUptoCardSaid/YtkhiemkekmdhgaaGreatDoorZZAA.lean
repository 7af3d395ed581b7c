import Derived.Laws.BitsLemmas
import Derived.Lib.ItoaNum
import Derived.Lib.ItoaMem
import Derived.Test.YtkhiemkekmdhgaaGreatDoorRows
import GoSem.Op.String
import Derived.WalkKit
import Derived.WalkSpells
import Derived.WalkLawsBesides
import Derived.Laws.StructEq
import Derived.Lib.QuietBelow
import Derived.Deep.RegionWith
import Derived.Deep.DeepCutAuto
import Derived.BigQuiet
import Derived.StillTailTactics
import Derived.Lib.Hide
import Derived.Deep.QuietTactic
import Derived.IntWalk
import Derived.Lib.AppendStr
import Derived.Laws.AppendOwnNone
import Derived.Laws.Bits64
namespace Go.Proofs.YtkhiemkekmdhgaaGreatDoor.Ty
def form (n : Nat) : Nat := if n < 64 then 0 else if n < 16384 then 1 else if n < 1073741824 then 2 else 3
def after : Nat → Nat
 | 0 => 0
 | 1 => 1
 | 2 => 3
 | _ => 8
def low : Nat → Nat → List UInt8
 | 0, _ => []
 | k + 1, n => UInt8.ofNat (n / 256 ^ k % 256) :: low k n
def head (n : Nat) : UInt8 := UInt8.ofNat (64 * form n + (if form n = 3 then 0 else n / 256 ^ after (form n)))
def encU (n : Nat) : List UInt8 := head n :: low (after (form n)) n
theorem form_le (n : Nat) : form n ≤ 3 := by unfold form; (repeat' split) <;> omega
theorem form_is (n : Nat) : (n < 64 ∧ form n = 0) ∨ (¬ n < 64 ∧ n < 16384 ∧ form n = 1) ∨ (¬ n < 16384 ∧ n < 1073741824 ∧ form n = 2) ∨ (¬ n < 1073741824 ∧ form n = 3) := by
 unfold form; (repeat' split) <;> omega
theorem low_length (k n : Nat) : (low k n).length = k := by induction k with
 | zero => rfl
 | succ k ih => simp [low, ih]
theorem or_head : ∀ (f : Fin 4) (x : Fin 64), (64 * f.val ||| x.val) = 64 * f.val + x.val := by decide
theorem or_u8 (f x : Nat) (hf : f < 4) (hx : x < 64) : bits .or .u8 ((64 * f : Nat) : Int) (x : Int) = ((64 * f + x : Nat) : Int) := by
 have h := (bits_nat .u8 8 (by decide) wraps_u8 (64 * f) x (by omega) (by omega)).2
 rw [h, or_head ⟨f, hf⟩ ⟨x, hx⟩]
theorem toNat_ofNat8 (n : Nat) (h : n < 256) : (UInt8.ofNat n).toNat = n := by simp [UInt8.toNat_ofNat']; omega
def U64 (n : Nat) : Prop := n < 2 ^ 64
theorem head_of (n f x : Nat) (C X : Int) (hC : C = ((64 * f : Nat) : Int)) (hX : X = (x : Int)) (hf : f < 4) (hx : x < 64) (hh : head n = UInt8.ofNat (64 * f + x)) : bits .or .u8 C X = ((head n).toNat : Int) := by
 rw [hC, hX, or_u8 f x hf hx, hh, toNat_ofNat8 _ (by omega)]
theorem head0 (n : Nat) (h : form n = 0) : bits .or .u8 0 ((n : Int) % 256) = ((head n).toNat : Int) := by
 have hb := form_is n
 exact head_of n 0 n _ _ rfl (by omega) (by omega) (by omega) (by unfold head; simp [h, after])
theorem head1 (n : Nat) (h : form n = 1) : bits .or .u8 64 ((n : Int) / 256 % 256) = ((head n).toNat : Int) := by
 have hb := form_is n
 exact head_of n 1 (n / 256) _ _ rfl (by omega) (by omega) (by omega) (by unfold head; simp [h, after])
theorem head2 (n : Nat) (h : form n = 2) : bits .or .u8 128 ((n : Int) / 16777216 % 256) = ((head n).toNat : Int) := by
 have hb := form_is n
 exact head_of n 2 (n / 16777216) _ _ rfl (by omega) (by omega) (by omega) (by unfold head; simp [h, after])
theorem head3 (n : Nat) (h : form n = 3) (hn : U64 n) : bits .or .u8 192 ((n : Int) / 18446744073709551616 % 256) = ((head n).toNat : Int) := by
 unfold U64 at hn
 exact head_of n 3 0 _ _ rfl (by omega) (by omega) (by omega) (by unfold head; simp [h])
theorem low_byte (n k : Nat) : ((n : Int) / 2 ^ (8 * k) % 256) = ((UInt8.ofNat (n / 256 ^ k % 256)).toNat : Int) := by
 rw [toNat_ofNat8 _ (Nat.mod_lt _ (by omega))]
 have e : (2 : Int) ^ (8 * k) = ((256 ^ k : Nat) : Int) := by
  rw [Int.pow_mul, Int.natCast_pow]; rfl
 rw [e]
 simp
theorem low_succ (n k : Nat) : low (k + 1) n = UInt8.ofNat (n / 256 ^ k % 256) :: low k n := rfl
theorem encU_split (n : Nat) : encU n = [head n] ++ low (after (form n)) n := rfl
theorem encU_length (n : Nat) : (encU n).length = 1 + after (form n) := by simp [encU, low_length]; omega
theorem after_le (n : Nat) : after (form n) ≤ 8 := by
 rcases form_is n with ⟨_, h⟩ | ⟨_, _, h⟩ | ⟨_, _, h⟩ | ⟨_, h⟩ <;> rw [h] <;> decide
def zig (n : Int) : Int := if 0 ≤ n then 2 * n else -2 * n - 1
def zag (n : Int) : Int := if n % 2 = 1 then -(n / 2) - 1 else n / 2
def I64 (n : Int) : Prop := -9223372036854775808 ≤ n ∧ n ≤ 9223372036854775807
theorem zig_nonneg (n : Int) : 0 ≤ zig n := by unfold zig; split <;> omega
theorem zig_u64 {n : Int} (h : I64 n) : U64 (zig n).toNat := by unfold zig U64; unfold I64 at h; split <;> omega
theorem zag_i64 {n : Nat} (h : U64 n) : I64 (zag n) := by unfold zag I64; unfold U64 at h; split <;> omega
theorem zag_zig (n : Int) : zag (zig n) = n := by unfold zag zig; (repeat' split) <;> omega
theorem zig_zag {n : Int} (h : 0 ≤ n) : zig (zag n) = n := by unfold zag zig; (repeat' split) <;> omega
theorem encU_len9 (n : Nat) : (encU n).length ≤ 9 := by rw [encU_length]; have := after_le n; omega
end Go.Proofs.YtkhiemkekmdhgaaGreatDoor.Ty
namespace Go.Proofs.YtkhiemkekmdhgaaGreatDoor
open Go
def Jn.val (l : List UInt8) : Nat := l.foldl (fun a c => 10 * a + (c.toNat - 48)) 0
def Jn.dig (c : UInt8) : Bool := decide (48 ≤ c.toNat ∧ c.toNat ≤ 57)
theorem Jn.val_snoc (l : List UInt8) (c : UInt8) : Jn.val (l ++ [c]) = 10 * Jn.val l + (c.toNat - 48) := by unfold Jn.val; rw [List.foldl_append]; rfl
theorem Jn.dig_of {d : Nat} (h : d < 10) : (UInt8.ofNat (48 + d)).toNat = 48 + d := by rw [UInt8.toNat_ofNat']; omega
theorem Jn.dec_val (u : Nat) : Jn.val (Lib.decDigits u) = u ∧ (Lib.decDigits u).all Jn.dig = true := by
 induction u using Nat.strongRecOn with
 | ind u ih =>
   by_cases h : u < 10
   ·rw [Lib.decDigits_one h]
    refine ⟨?_, ?_⟩
    ·unfold Jn.val
     simp only [List.foldl_cons, List.foldl_nil, Jn.dig_of h]
     omega
    ·simp only [List.all_cons, List.all_nil, Bool.and_true]
     unfold Jn.dig
     rw [Jn.dig_of h]
     exact decide_eq_true (by omega)
   ·obtain ⟨h1, h2⟩ := ih (u / 10) (by omega)
    have e : Lib.decDigits u = Lib.decDigits (u / 10) ++ [UInt8.ofNat (48 + u % 10)] := by rw [Lib.decDigits, dif_neg h]
    rw [e]
    refine ⟨?_, ?_⟩
    ·rw [Jn.val_snoc, h1, Jn.dig_of (Nat.mod_lt _ (by decide))]
     omega
    ·rw [List.all_append, h2, Bool.true_and]
     simp only [List.all_cons, List.all_nil, Bool.and_true]
     unfold Jn.dig
     rw [Jn.dig_of (Nat.mod_lt _ (by decide))]
     exact decide_eq_true (by omega)
theorem Jn.dec_len : ∀ (k u : Nat), 1 ≤ k → u < 10 ^ k → 1 ≤ (Lib.decDigits u).length ∧ (Lib.decDigits u).length ≤ k
 | 0, u, h, _ => by omega
 | k + 1, u, _, hu => by
   by_cases h : u < 10
   ·rw [Lib.decDigits_one h]
    exact ⟨Nat.le_refl _, by simp⟩
   ·have e : Lib.decDigits u = Lib.decDigits (u / 10) ++ [UInt8.ofNat (48 + u % 10)] := by rw [Lib.decDigits, dif_neg h]
    rw [e, List.length_append, List.length_singleton]
    have hk : 1 ≤ k := by
     rcases Nat.eq_zero_or_pos k with rfl | hk
     ·simp at hu; omega
     ·exact hk
    obtain ⟨h1, h2⟩ := Jn.dec_len k (u / 10) hk (by rw [Nat.pow_succ] at hu; omega)
    omega
def Jn.most : Nat := 999999999
def Jn.name (l : List UInt8) (n : Int) : List UInt8 := if n < 0 ∨ 999999999 < n then [] else l ++ Lib.decDigits n.toNat
def Jn.okN (l s : List UInt8) : Bool := l.isPrefixOf s && (decide ((s.drop l.length).length ≤ 9) && ((s.drop l.length).all Jn.dig && decide (Lib.decDigits (Jn.val (s.drop l.length)) = s.drop l.length)))
def Jn.num (l s : List UInt8) : Nat := if Jn.okN l s = true then Jn.val (s.drop l.length) else 0
theorem Jn.val_ltA : ∀ (l : List UInt8) (a : Nat), l.all Jn.dig = true → l.foldl (fun a c => 10 * a + (c.toNat - 48)) a < (a + 1) * 10 ^ l.length
 | [], a, _ => by simp
 | c :: l, a, h => by
   rw [List.all_cons, Bool.and_eq_true] at h
   have h2 : c.toNat - 48 ≤ 9 := by
    have := h.1
    unfold Jn.dig at this
    have := of_decide_eq_true this
    omega
   have ih := Jn.val_ltA l (10 * a + (c.toNat - 48)) h.2
   rw [List.foldl_cons, List.length_cons, Nat.pow_succ]
   refine Nat.lt_of_lt_of_le ih ?_
   rw [Nat.mul_comm (10 ^ l.length) 10, ← Nat.mul_assoc]
   exact Nat.mul_le_mul_right _ (by omega)
theorem Jn.val_lt (l : List UInt8) (h : l.all Jn.dig = true) : Jn.val l < 10 ^ l.length := by
 have := Jn.val_ltA l 0 h
 rwa [Nat.zero_add, Nat.one_mul] at this
theorem Jn.ok_name {l s : List UInt8} (h : Jn.okN l s = true) : Jn.num l s ≤ 999999999 ∧ Jn.name l (Jn.num l s : Nat) = s := by
 have h0 := h
 unfold Jn.okN at h
 rw [Bool.and_eq_true, Bool.and_eq_true, Bool.and_eq_true] at h
 obtain ⟨h1, h2, h3, h4⟩ := h
 have h2 := of_decide_eq_true h2
 have h4 := of_decide_eq_true h4
 have hv := Jn.val_lt _ h3
 have hp : (10 : Nat) ^ (s.drop l.length).length ≤ 10 ^ 9 := Nat.pow_le_pow_right (by decide) h2
 have hn : Jn.num l s = Jn.val (s.drop l.length) := by unfold Jn.num; rw [if_pos h0]
 have hle : Jn.num l s ≤ 999999999 := by rw [hn]; omega
 refine ⟨hle, ?_⟩
 unfold Jn.name
 rw [if_neg (by omega), Int.toNat_natCast, hn, h4]
 obtain ⟨t, rfl⟩ := List.isPrefixOf_iff_prefix.1 h1
 rw [List.drop_left]
theorem Jn.name_ok {l : List UInt8} {n : Int} (h0 : 0 ≤ n) (h1 : n ≤ 999999999) : Jn.okN l (Jn.name l n) = true ∧ (Jn.num l (Jn.name l n) : Int) = n := by
 have e : Jn.name l n = l ++ Lib.decDigits n.toNat := by unfold Jn.name; rw [if_neg (by omega)]
 obtain ⟨v1, v2⟩ := Jn.dec_val n.toNat
 obtain ⟨l1, l2⟩ := Jn.dec_len 9 n.toNat (by decide) (by omega)
 have hd : (Jn.name l n).drop l.length = Lib.decDigits n.toNat := by rw [e, List.drop_left]
 have hok : Jn.okN l (Jn.name l n) = true := by
  unfold Jn.okN
  rw [hd, v1, v2, e]
  simp [l2]
 refine ⟨hok, ?_⟩
 unfold Jn.num
 rw [if_pos hok, hd, v1]
 omega
theorem Jn.name_nil {l : List UInt8} {n : Int} : Jn.name l n = [] ↔ (n < 0 ∨ 999999999 < n) := by
 unfold Jn.name
 constructor
 ·intro h
  split at h
  ·next h2 => exact h2
  ·have := (Jn.dec_len 9 n.toNat (by decide) (by omega)).1
   have h2 := congrArg List.length h
   rw [List.length_append, List.length_nil] at h2
   omega
 ·intro h
  rw [if_pos h]
end Go.Proofs.YtkhiemkekmdhgaaGreatDoor
namespace Go.Proofs.YtkhiemkekmdhgaaGreatDoor.Kn
open Go
theorem bl_irrefl : ∀ l : List UInt8, Op.bytesLess l l = false
 | [] => rfl
 | a :: l => by simp [Op.bytesLess, bl_irrefl l]
theorem bl_total : ∀ a b : List UInt8, Op.bytesLess a b = true ∨ a = b ∨ Op.bytesLess b a = true
 | [], [] => .inr (.inl rfl)
 | [], _ :: _ => .inl rfl
 | _ :: _, [] => .inr (.inr rfl)
 | a :: x, b :: y => by
   rcases Nat.lt_trichotomy a.toNat b.toNat with h | h | h
   ·left; simp [Op.bytesLess, UInt8.lt_iff_toNat_lt, h]
   ·have e : a = b := UInt8.toNat_inj.1 h
    subst e
    rcases bl_total x y with g | g | g
    ·left; simp [Op.bytesLess, g]
    ·right; left; rw [g]
    ·right; right; simp [Op.bytesLess, g]
   ·right; right; simp [Op.bytesLess, UInt8.lt_iff_toNat_lt, h]
theorem bl_trans : ∀ a b c : List UInt8, Op.bytesLess a b = true → Op.bytesLess b c = true → Op.bytesLess a c = true
 | _, [], _, h, _ => by simp [Op.bytesLess] at h
 | _, _ :: _, [], _, h => by simp [Op.bytesLess] at h
 | [], _ :: _, _ :: _, _, _ => rfl
 | a :: x, b :: y, c :: z, h, k => by
   simp only [Op.bytesLess, Bool.or_eq_true, decide_eq_true_eq, Bool.and_eq_true, beq_iff_eq, UInt8.lt_iff_toNat_lt] at h k ⊢
   rcases h with h | ⟨rfl, h⟩ <;> rcases k with k | ⟨rfl, k⟩
   ·left; omega
   ·left; exact h
   ·left; exact k
   ·right; exact ⟨rfl, bl_trans x y z h k⟩
theorem bl_asymm (a b : List UInt8) (h : Op.bytesLess a b = true) : Op.bytesLess b a = false := by
 cases hb : Op.bytesLess b a with
 | false => rfl
 | true => have := bl_trans a b a h hb; rw [bl_irrefl] at this; cases this
structure V where
 null : Bool
 n : Int
 s : ByteArray
abbrev V.val (v : V) : Value := .agg #[.bool v.null, .int .i64 v.n, .string v.s]
def ncmp (a b : Int) : Int := if a < b then -1 else if b < a then 1 else 0
def lcmp (a b : List UInt8) : Int := if Op.bytesLess a b = true then -1 else if Op.bytesLess b a = true then 1 else 0
def scmp (a b : ByteArray) : Int := lcmp a.toList b.toList
def or2 (x y : Int) : Int := if x = 0 then y else x
def cmp (a b : V) : Int := if a.null = true then (if b.null = true then 0 else -1) else if b.null = true then 1 else or2 (ncmp a.n b.n) (scmp a.s b.s)
structure Fair (x y z x' y' z' : Int) : Prop where
 xr : -1 ≤ x ∧ x ≤ 1
 yr : -1 ≤ y ∧ y ≤ 1
 zr : -1 ≤ z ∧ z ≤ 1
 xa : x' = -x
 ya : y' = -y
 za : z' = -z
 le : x ≤ 0 → y ≤ 0 → z ≤ 0
 lt : x ≤ 0 → y ≤ 0 → z = 0 → x = 0 ∧ y = 0
 ge : x ≥ 0 → y ≥ 0 → z ≥ 0
 gt : x ≥ 0 → y ≥ 0 → z = 0 → x = 0 ∧ y = 0
theorem ncmp_fair (a b c : Int) : Fair (ncmp a b) (ncmp b c) (ncmp a c) (ncmp b a) (ncmp c b) (ncmp c a) := by
 unfold ncmp
 constructor <;> (repeat' split) <;> omega
theorem bl_ne {a b : List UInt8} (h : Op.bytesLess a b = true) : Op.bytesLess b a = false ∧ a ≠ b := ⟨bl_asymm a b h, fun e => by rw [e, bl_irrefl] at h; cases h⟩
theorem lcmp_lt {a b : List UInt8} (h : Op.bytesLess a b = true) : lcmp a b = -1 ∧ lcmp b a = 1 := by simp [lcmp, h, bl_asymm a b h]
theorem lcmp_self (a : List UInt8) : lcmp a a = 0 := by simp [lcmp, bl_irrefl]
theorem lcmp_anti (a b : List UInt8) : lcmp b a = -lcmp a b ∧ -1 ≤ lcmp a b ∧ lcmp a b ≤ 1 := by
 rcases bl_total a b with h | rfl | h
 ·rw [(lcmp_lt h).1, (lcmp_lt h).2]; omega
 ·rw [lcmp_self]; omega
 ·rw [(lcmp_lt h).1, (lcmp_lt h).2]; omega
theorem lcmp_chain (a b c : List UInt8) (h1 : lcmp a b ≤ 0) (h2 : lcmp b c ≤ 0) : lcmp a c ≤ 0 ∧ (lcmp a c = 0 → lcmp a b = 0 ∧ lcmp b c = 0) := by
 rcases bl_total a b with h | rfl | h
 ·rcases bl_total b c with k | rfl | k
  ·have := (lcmp_lt (bl_trans a b c h k)).1
   omega
  ·rw [lcmp_self]; omega
  ·have := (lcmp_lt k).2; omega
 ·rw [lcmp_self]; omega
 ·have := (lcmp_lt h).2; omega
theorem lcmp_fair (a b c : List UInt8) : Fair (lcmp a b) (lcmp b c) (lcmp a c) (lcmp b a) (lcmp c b) (lcmp c a) := by
 have h1 := lcmp_anti a b
 have h2 := lcmp_anti b c
 have h3 := lcmp_anti a c
 have h4 := lcmp_chain a b c
 have h5 := lcmp_chain c b a
 constructor <;> omega
theorem lex_fair {x y z x' y' z' p q r p' q' r' : Int} (h : Fair x y z x' y' z') (k : Fair p q r p' q' r') : Fair (or2 x p) (or2 y q) (or2 z r) (or2 x' p') (or2 y' q') (or2 z' r') := by
 obtain ⟨⟨h1, h2⟩, ⟨h3, h4⟩, ⟨h5, h6⟩, rfl, rfl, rfl, h10, h11, h12, h13⟩ := h
 obtain ⟨⟨k1, k2⟩, ⟨k3, k4⟩, ⟨k5, k6⟩, rfl, rfl, rfl, k10, k11, k12, k13⟩ := k
 unfold or2
 constructor <;> (repeat' split) <;> omega
theorem cmp_fair (a b c : V) : Fair (cmp a b) (cmp b c) (cmp a c) (cmp b a) (cmp c b) (cmp c a) := by
 have h := lex_fair (ncmp_fair a.n b.n c.n) (show Fair (scmp a.s b.s) (scmp b.s c.s) (scmp a.s c.s) (scmp b.s a.s) (scmp c.s b.s) (scmp c.s a.s) from lcmp_fair a.s.toList b.s.toList c.s.toList)
 unfold cmp
 cases a.null <;> cases b.null <;> cases c.null <;> simp only [Bool.false_eq_true, if_false, if_true]
 ·exact h
 all_goals
  obtain ⟨⟨h1, h2⟩, ⟨h3, h4⟩, ⟨h5, h6⟩, h7, h8, h9, h10, h11, h12, h13⟩ := h
  constructor <;> omega
theorem lcmp_zero (a b : List UInt8) : lcmp a b = 0 ↔ a = b := by
 rcases bl_total a b with h | rfl | h
 ·rw [(lcmp_lt h).1]; exact ⟨fun e => by omega, fun e => absurd e (bl_ne h).2⟩
 ·simp [lcmp_self]
 ·rw [(lcmp_lt h).2]; exact ⟨fun e => by omega, fun e => absurd e.symm (bl_ne h).2⟩
theorem ncmp_zero (a b : Int) : ncmp a b = 0 ↔ a = b := by unfold ncmp; repeat' split <;> omega
theorem or2_zero (x y : Int) : or2 x y = 0 ↔ x = 0 ∧ y = 0 := by unfold or2; split <;> omega
def same (a b : V) : Bool := (a.null && b.null) || ((!a.null && !b.null) && a.n == b.n && a.s.toList == b.s.toList)
theorem cmp_zero (a b : V) : (cmp a b == 0) = same a b := by
 rw [Bool.eq_iff_iff, beq_iff_eq]
 unfold cmp same
 cases a.null <;> cases b.null <;> simp [or2_zero, ncmp_zero, scmp, lcmp_zero]
end Go.Proofs.YtkhiemkekmdhgaaGreatDoor.Kn
namespace Go.Proofs.YtkhiemkekmdhgaaGreatDoor
open Go.RowKit
set_option maxRecDepth 100000 in
theorem Kn.isNaNi_c (a : Int) (w : World) : Calls Tryz.prog 135 #[.int .i64 a] w fun e w' => e = .returned (.bool false) ∧ w' = w := by
 go_enter Tryz.func135, Tryz.ntmps135
 go_wp2
 go_ret
 exact ⟨rfl, rfl⟩
set_option maxRecDepth 100000 in
theorem Kn.isNaNs_c (a : ByteArray) (w : World) : Calls Tryz.prog 136 #[.string a] w fun e w' => e = .returned (.bool false) ∧ w' = w := by
 go_enter Tryz.func136, Tryz.ntmps136
 go_wp2
 go_ret
 exact ⟨rfl, rfl⟩
set_option maxRecDepth 100000 in
theorem Kn.cmpi_c (a b : Int) (w : World) : Calls Tryz.prog 118 #[.int .i64 a, .int .i64 b] w fun e w' => e = .returned (.int .i64 (Kn.ncmp a b)) ∧ w' = w := by
 have hc : (a < b ∧ Kn.ncmp a b = -1) ∨ (¬ a < b ∧ b < a ∧ Kn.ncmp a b = 1) ∨ (¬ a < b ∧ ¬ b < a ∧ Kn.ncmp a b = 0) := by unfold Kn.ncmp; repeat' split <;> omega
 rcases hc with ⟨h1, h⟩ | ⟨h1, h2, h⟩ | ⟨h1, h2, h⟩
 all_goals
  rw [h]
  go_enter Tryz.func118, Tryz.ntmps118
  go_wp2_with fail
  refine (Kn.isNaNi_c _ _).mono ?_
  rintro e w1 ⟨rfl, rfl⟩
  go_wp2_with fail
  refine (Kn.isNaNi_c _ _).mono ?_
  rintro e w1 ⟨rfl, rfl⟩
  go_wp2
  go_ret
  exact ⟨rfl, rfl⟩
set_option maxRecDepth 100000 in
theorem Kn.cmps_c (a b : ByteArray) (w : World) : Calls Tryz.prog 119 #[.string a, .string b] w fun e w' => e = .returned (.int .i64 (Kn.scmp a b)) ∧ w' = w := by
 have hc : (Op.bytesLess a.toList b.toList = true ∧ Kn.scmp a b = -1) ∨ (Op.bytesLess a.toList b.toList = false ∧ (a.toList == b.toList) = false ∧ Kn.scmp a b = 1) ∨ (Op.bytesLess a.toList b.toList = false ∧ (a.toList == b.toList) = true ∧ Kn.scmp a b = 0) := by
  unfold Kn.scmp Kn.lcmp
  rcases Kn.bl_total a.toList b.toList with h | h | h
  ·left; rw [h]; exact ⟨rfl, rfl⟩
  ·right; right; rw [h, Kn.bl_irrefl]; exact ⟨rfl, by simp, rfl⟩
  ·right; left; rw [h, (Kn.bl_ne h).1]; exact ⟨rfl, by rw [beq_eq_false_iff_ne]; exact fun e => (Kn.bl_ne h).2 e.symm, rfl⟩
 rcases hc with ⟨h1, h⟩ | ⟨h1, h2, h⟩ | ⟨h1, h2, h⟩
 all_goals
  rw [h]
  go_enter Tryz.func119, Tryz.ntmps119
  go_wp2_with fail
  refine (Kn.isNaNs_c _ _).mono ?_
  rintro e w1 ⟨rfl, rfl⟩
  go_wp2_with fail
  refine (Kn.isNaNs_c _ _).mono ?_
  rintro e w1 ⟨rfl, rfl⟩
  go_wp2
  go_ret
  exact ⟨rfl, rfl⟩
set_option maxRecDepth 100000 in
theorem Kn.or_c (b : Nat) (x y : Int) (w : World) (h0 : w.cell? ⟨b, 0, none⟩ = some (.int .i64 x)) (h1 : w.cell? ⟨b, 1, none⟩ = some (.int .i64 y)) :
 Calls Tryz.prog 117 #[.slice (some ⟨b, 0, none⟩) 2 2] w fun e w' => e = .returned (.int .i64 (Kn.or2 x y)) ∧ w' = w := by
 have hc : ((x != 0) = true ∧ Kn.or2 x y = x) ∨ ((x != 0) = false ∧ (y != 0) = true ∧ Kn.or2 x y = y) ∨ ((x != 0) = false ∧ (y != 0) = false ∧ Kn.or2 x y = 0) := by
  unfold Kn.or2
  by_cases hx : x = 0 <;> by_cases hy : y = 0 <;> simp [hx, hy]
 rcases hc with ⟨h2, h⟩ | ⟨h2, h3, h⟩ | ⟨h2, h3, h⟩
 ·rw [h]
  go_enter Tryz.func117, Tryz.ntmps117
  go_wp2_with fail
  refine wp_loop_rounds 3 ?_; rw [rounds_succ]
  go_wp2
  go_ret
  exact ⟨rfl, rfl⟩
 ·rw [h]
  go_enter Tryz.func117, Tryz.ntmps117
  go_wp2_with fail
  refine wp_loop_rounds 3 ?_; rw [rounds_succ]
  go_wp2
  rw [rounds_succ]
  go_wp2
  go_ret
  exact ⟨rfl, rfl⟩
 ·rw [h]
  go_enter Tryz.func117, Tryz.ntmps117
  go_wp2_with fail
  refine wp_loop_rounds 3 ?_; rw [rounds_succ]
  go_wp2
  rw [rounds_succ]
  go_wp2
  rw [rounds_succ]
  go_wp2
  go_ret
  exact ⟨rfl, rfl⟩
set_option maxRecDepth 100000 in
theorem Kn.new2 (w : World) (x y : Value) (t : TypeId) (b : Nat) (hb : b = w.heap.size) : (w.alloc (.cells #[x, y] t)).drew.cell? ⟨b, 0, none⟩ = some x ∧ (w.alloc (.cells #[x, y] t)).drew.cell? ⟨b, 1, none⟩ = some y := by
 subst hb
 have h := heap_alloc_new w (.cells #[x, y] t)
 show (w.alloc (.cells #[x, y] t)).cell? ⟨w.heap.size, 0, none⟩ = some x ∧ (w.alloc (.cells #[x, y] t)).cell? ⟨w.heap.size, 1, none⟩ = some y
 unfold World.cell?
 simp only [h]
 exact ⟨rfl, rfl⟩
set_option maxRecDepth 100000 in
set_option maxHeartbeats 400000 in
theorem Kn.compare_c (a b : Kn.V) (w : World) : Calls Tryz.prog 91 #[a.val, b.val] w fun e w' => e = .returned (.int .i64 (Kn.cmp a b)) ∧ Below w.heap.size w w' := by
 obtain ⟨an, ai, sa⟩ := a
 obtain ⟨bn, bi, sb⟩ := b
 unfold Kn.V.val
 cases an <;> cases bn
 ·have h : Kn.cmp ⟨false, ai, sa⟩ ⟨false, bi, sb⟩ = Kn.or2 (Kn.ncmp ai bi) (Kn.scmp sa sb) := rfl
  rw [h]
  go_enter Tryz.func91, Tryz.ntmps91
  go_wp2_with fail
  refine wp_region_still_tail 10 (by kernel_rfl) (by kernel_rfl) ?_
  simp only [List.take_succ_cons, List.take_zero, List.drop_succ_cons, List.drop_zero]
  change wpStill _ _ (World.drew _) (fun a' => wpList _ _ _ _ a' (World.drew _)) _ _
  still_step
  still_step
  still_step
  still_step
  still_call (Kn.cmpi_c ai bi _)
  still_step
  still_step
  still_step
  still_step
  still_call (Kn.cmps_c sa sb _)
  refine wpStill_nil ?_
  go_wp2_with fail
  refine (Kn.or_c _ (Kn.ncmp ai bi) (Kn.scmp sa sb) _ (Kn.new2 _ _ _ _ _ (by simp)).1 (Kn.new2 _ _ _ _ _ (by simp)).2).mono ?_
  rintro e wc ⟨rfl, rfl⟩
  go_wp2
  go_ret
  exact ⟨rfl, ((((Below.refl _ w).alloc (Nat.le_refl _) _).alloc (by simp) _).alloc (by simp; omega) _).drew⟩
 all_goals
  go_enter Tryz.func91, Tryz.ntmps91
  go_wp2
  go_ret
  exact ⟨rfl, ((Below.refl _ w).alloc (Nat.le_refl _) _).alloc (by simp) _⟩
end Go.Proofs.YtkhiemkekmdhgaaGreatDoor
namespace Go.Proofs.YtkhiemkekmdhgaaGreatDoor
open Go.RowKit
theorem Kn.below_drewN {B : Nat} {w w' : World} (h : Below B w w') (n : Nat) : Below B w (w'.drewN n) := ⟨h.os, h.tape, h.output, h.size, h.block⟩
structure Kn.At (w : World) (b o : Nat) (v : Kn.V) : Prop where
 c0 : w.cell? ⟨b, o, none⟩ = some (.bool v.null)
 c1 : w.cell? ⟨b, o + 1, none⟩ = some (.int .i64 v.n)
 c2 : w.cell? ⟨b, o + 2, none⟩ = some (.string v.s)
theorem Kn.At.lt {w : World} {b o : Nat} {v : Kn.V} (h : Kn.At w b o v) : b < w.heap.size := World.block_lt_of_cell? w _ h.c0
theorem Kn.At.later {w w' : World} {b o : Nat} {v : Kn.V} (h : Kn.At w b o v) (g : Below w.heap.size w w') : Kn.At w' b o v :=
 ⟨(g.cell (p := ⟨b, o, none⟩) h.lt).trans h.c0, (g.cell (p := ⟨b, o + 1, none⟩) h.lt).trans h.c1, (g.cell (p := ⟨b, o + 2, none⟩) h.lt).trans h.c2⟩
theorem Kn.cell_new (w : World) (cs : Array Value) (t : TypeId) (i : Nat) (v : Value) (h : cs[i]? = some v) : (w.alloc (.cells cs t)).cell? ⟨w.heap.size, i, none⟩ = some v := by
 have e := heap_alloc_new w (.cells cs t)
 unfold World.cell?
 simp only [e]
 exact h
theorem Kn.At.new (w : World) (v : Kn.V) (t : TypeId) : Kn.At (w.alloc (.cells #[.bool v.null, .int .i64 v.n, .string v.s] t)) w.heap.size 0 v :=
 ⟨Kn.cell_new w _ t 0 _ rfl, Kn.cell_new w _ t 1 _ rfl, Kn.cell_new w _ t 2 _ rfl⟩
theorem Kn.At.alloc {w : World} {b o : Nat} {v : Kn.V} (h : Kn.At w b o v) (x : Obj) : Kn.At (w.alloc x) b o v := h.later ((Below.refl _ w).alloc (Nat.le_refl _) x)
def Kn.Z (a : Kn.V) : Prop := a.s.size ≤ 140737488351232
theorem Kn.len_toList (s : ByteArray) : s.toList.length = s.size := by
 rw [ByteArray.toList_eq]
 exact Array.length_toList
theorem Kn.at_toList (s : ByteArray) (k : Nat) (h : k < s.size) : s.toList.drop k = s[k] :: s.toList.drop (k + 1) := by
 have hl : k < s.toList.length := by rw [Kn.len_toList]; exact h
 rw [List.drop_eq_getElem_cons hl]
 congr 1
 rw [List.getElem_of_eq (ByteArray.toList_eq s)]
 rfl
theorem Kn.bl_step (x y : UInt8) (l m : List UInt8) : ((((x.toNat : Int) != (y.toNat : Int)) = true ∧ Op.bytesLess (x :: l) (y :: m) = decide (x.toNat < y.toNat)) ∨ (((x.toNat : Int) != (y.toNat : Int)) = false ∧ Op.bytesLess (x :: l) (y :: m) = Op.bytesLess l m)) := by
 by_cases h : x = y
 ·subst h
  right
  simp [Op.bytesLess]
 ·left
  have hn : x.toNat ≠ y.toNat := fun e => h (UInt8.toNat_inj.1 e)
  refine ⟨by rw [bne_iff_ne]; omega, ?_⟩
  simp [Op.bytesLess, h, UInt8.lt_iff_toNat_lt]
theorem Kn.bl_end (a b : ByteArray) (k : Nat) (ha : k ≤ a.size) (hb : k ≤ b.size) (h : ¬ k < a.size ∨ ¬ k < b.size) : Op.bytesLess (a.toList.drop k) (b.toList.drop k) = decide (a.size < b.size) := by
 by_cases h1 : k < b.size
 ·have e : a.toList.drop k = [] := List.drop_eq_nil_of_le (by rw [Kn.len_toList]; omega)
  rw [e, Kn.at_toList b k h1]
  rw [decide_eq_true (by omega)]
  rfl
 ·have e : b.toList.drop k = [] := List.drop_eq_nil_of_le (by rw [Kn.len_toList]; omega)
  rw [e, decide_eq_false (by omega)]
  cases List.drop k a.toList <;> rfl
set_option maxRecDepth 100000 in
set_option maxHeartbeats 1000000 in
theorem Kn.rahead_c (a b : ByteArray) (ha : a.size ≤ 140737488351232) (hb : b.size ≤ 140737488351232) (w : World) :
 Calls Tryz.prog 122 #[.string a, .string b] w fun e w' => e = .returned (.bool (Op.bytesLess a.toList b.toList)) ∧ ∃ n, w' = w.drewN n := by
 go_enter Tryz.func122, Tryz.ntmps122
 go_wp2
 go_loopw [5] (fun i wr => ∃ k : Nat, k ≤ a.size ∧ k ≤ b.size ∧ i = .int .i64 k ∧ Op.bytesLess a.toList b.toList = Op.bytesLess (a.toList.drop k) (b.toList.drop k) ∧ ∃ n, wr = w.drewN n) (fun i _ => a.size - (intOf i).toNat)
 case atStart => exact ⟨0, by omega, by omega, rfl, rfl, 0, rfl⟩
 case round =>
  obtain ⟨k, hka, hkb, rfl, hl, n, rfl⟩ := hrel
  by_cases h1 : k < a.size
  ·by_cases h2 : k < b.size
   ·have d1 : (k : Int) < (a.size : Int) := by omega
    have d2 : (k : Int) < (b.size : Int) := by omega
    have d0 : 0 ≤ (k : Int) := by omega
    rw [Kn.at_toList a k h1, Kn.at_toList b k h2] at hl
    have HL := Lib.hid hl
    clear hl
    rcases Kn.bl_step a[k] b[k] (a.toList.drop (k + 1)) (b.toList.drop (k + 1)) with ⟨h3, h4⟩ | ⟨h3, h4⟩
    ·have H4 := Lib.hid h4
     clear h4
     go_wp2_with fail
     go_quiet (fail)
     go_wp2_with fail
     go_quiet (fail)
     go_wp2
     go_ret
     exact ⟨congrArg (fun x => Ending.returned (.bool x)) (HL.out.trans H4.out).symm, _, by rw [World.drewN_drewN, World.drewN_drewN]⟩
    ·have H4 := Lib.hid h4
     clear h4
     go_wp2_with fail
     go_quiet (fail)
     go_wp2
     go_roundw
     case rel => exact ⟨k + 1, by omega, by omega, by simp, by rw [HL.out, H4.out], _, rfl⟩
     case measure => simp [intOf]; omega
   ·have d1 : (k : Int) < (a.size : Int) := by omega
    have d2 : ¬ (k : Int) < (b.size : Int) := by omega
    go_wp2
    go_ret
    exact ⟨congrArg (fun x => Ending.returned (.bool x)) (Kn.bl_end a b k hka hkb (.inr h2)).symm, _, rfl⟩
  ·have d1 : ¬ (k : Int) < (a.size : Int) := by omega
   go_wp2
   go_ret
   exact ⟨congrArg (fun x => Ending.returned (.bool x)) (Kn.bl_end a b k hka hkb (.inl h1)).symm, _, rfl⟩
theorem Kn.ahead_is (a b : Kn.V) : (decide (Kn.cmp a b < 0)) = (if a.null = true then !b.null else if b.null = true then false else if (a.n != b.n) = true then decide (a.n < b.n) else Op.bytesLess a.s.toList b.s.toList) := by
 unfold Kn.cmp
 cases a.null <;> cases b.null <;> simp only [Bool.false_eq_true, if_false, if_true]
 ·by_cases h : a.n = b.n
  ·rw [h]
   have e : Kn.ncmp b.n b.n = 0 := (Kn.ncmp_zero _ _).2 rfl
   rw [e]
   have e2 : (b.n != b.n) = false := by simp
   rw [e2, if_neg (by simp)]
   show decide (Kn.lcmp a.s.toList b.s.toList < 0) = _
   unfold Kn.lcmp
   cases Op.bytesLess a.s.toList b.s.toList
   ·cases Op.bytesLess b.s.toList a.s.toList <;> rfl
   ·rfl
  ·have e : Kn.ncmp a.n b.n ≠ 0 := fun e => h ((Kn.ncmp_zero _ _).1 e)
   have e2 : (a.n != b.n) = true := by rw [bne_iff_ne]; exact h
   rw [if_pos e2]
   unfold Kn.or2
   rw [if_neg e, Bool.eq_iff_iff, decide_eq_true_iff, decide_eq_true_iff]
   unfold Kn.ncmp
   repeat' split <;> omega
 all_goals rfl
set_option maxRecDepth 100000 in
set_option maxHeartbeats 1000000 in
theorem Kn.rAhead_c (a b : Kn.V) (ha : Kn.Z a) (hb : Kn.Z b) (w : World) :
 Calls Tryz.prog 95 #[a.val, b.val] w fun e w' => e = .returned (.bool (decide (Kn.cmp a b < 0))) ∧ Below w.heap.size w w' := by
 rw [Kn.ahead_is]
 obtain ⟨an, ai, sa⟩ := a
 obtain ⟨bn, bi, sb⟩ := b
 unfold Kn.V.val
 cases an <;> cases bn
 ·rcases Bool.eq_false_or_eq_true (ai != bi) with h | h
  ·show Calls _ _ _ _ fun e w' => e = .returned (.bool (if (ai != bi) = true then decide (ai < bi) else Op.bytesLess sa.toList sb.toList)) ∧ _
   rw [if_pos h]
   go_enter Tryz.func95, Tryz.ntmps95
   go_wp2
   go_ret
   exact ⟨rfl, ((Below.refl _ w).alloc (Nat.le_refl _) _).alloc (by simp) _⟩
  ·show Calls _ _ _ _ fun e w' => e = .returned (.bool (if (ai != bi) = true then decide (ai < bi) else Op.bytesLess sa.toList sb.toList)) ∧ _
   rw [if_neg (by rw [h]; simp)]
   go_enter Tryz.func95, Tryz.ntmps95
   go_wp2_with fail
   refine (Kn.rahead_c sa sb ha hb _).mono ?_
   rintro e w1 ⟨rfl, n, rfl⟩
   go_wp2
   go_ret
   exact ⟨rfl, Kn.below_drewN (((Below.refl _ w).alloc (Nat.le_refl _) _).alloc (by simp) _) n⟩
 all_goals
  go_enter Tryz.func95, Tryz.ntmps95
  go_wp2
  go_ret
  exact ⟨rfl, ((Below.refl _ w).alloc (Nat.le_refl _) _).alloc (by simp) _⟩
end Go.Proofs.YtkhiemkekmdhgaaGreatDoor
namespace Go.Proofs.YtkhiemkekmdhgaaGreatDoor
open Go.RowKit
def Ty.G : Nat := Nat.max 2 5 + 1
structure Ty.Tabs (w : World) : Prop where
 z0 : w.cell? ⟨2, 0, none⟩ = some (.int .i64 1)
 z1 : w.cell? ⟨2, 1, none⟩ = some (.int .i64 2)
 z2 : w.cell? ⟨2, 2, none⟩ = some (.int .i64 4)
 z3 : w.cell? ⟨2, 3, none⟩ = some (.int .i64 9)
 s0 : w.cell? ⟨5, 0, none⟩ = some (.int .u64 0)
 s1 : w.cell? ⟨5, 1, none⟩ = some (.int .u64 64)
 s2 : w.cell? ⟨5, 2, none⟩ = some (.int .u64 16384)
 s3 : w.cell? ⟨5, 3, none⟩ = some (.int .u64 1073741824)
 two : Ty.G ≤ w.heap.size
set_option maxHeartbeats 400000 in
theorem Ty.formOf_c (n : Nat) (w : World) (h : Ty.Tabs w) :
 Calls Tryz.prog 134 #[.int .u64 n] w fun e w' => e = .returned (.int .i64 (Ty.form n)) ∧ w' = w := by
 obtain ⟨z0, z1, z2, z3, s0, s1, s2, s3, _⟩ := h
 go_enter Tryz.func134, Tryz.ntmps134
 go_wp2
 go_loop [3] (fun i => ∃ k : Nat, k ≤ 3 ∧ i = .int .i64 k ∧ Ty.form n ≤ k) (fun i => (intOf i).toNat)
 case atStart => exact ⟨3, by omega, by simp, Ty.form_le n⟩
 case round =>
  obtain ⟨k, hk, rfl, hf⟩ := hrel
  have hb := Ty.form_is n
  have hc : (k = 0 ∧ Ty.form n = 0) ∨ (k = 1 ∧ (n : Int) < 64 ∧ Ty.form n ≤ 0) ∨ (k = 1 ∧ ¬ (n : Int) < 64 ∧ Ty.form n = 1) ∨ (k = 2 ∧ (n : Int) < 16384 ∧ Ty.form n ≤ 1) ∨ (k = 2 ∧ ¬ (n : Int) < 16384 ∧ Ty.form n = 2) ∨ (k = 3 ∧ (n : Int) < 1073741824 ∧ Ty.form n ≤ 2) ∨ (k = 3 ∧ ¬ (n : Int) < 1073741824 ∧ Ty.form n = 3) := by omega
  clear hb
  rcases hc with ⟨rfl, hz⟩ | ⟨rfl, hl, hx⟩ | ⟨rfl, hl, hz⟩ | ⟨rfl, hl, hx⟩ | ⟨rfl, hl, hz⟩ | ⟨rfl, hl, hx⟩ | ⟨rfl, hl, hz⟩
  ·have h0 : ¬ (n : Int) < 0 := by omega
   go_wp2
   go_ret
   exact ⟨rfl, rfl⟩
  ·go_wp2
   go_round
   case rel => exact ⟨0, by omega, by simp, hx⟩
   case measure => simp [intOf]
  ·go_wp2
   go_ret
   exact ⟨rfl, rfl⟩
  ·go_wp2
   go_round
   case rel => exact ⟨1, by omega, by simp, hx⟩
   case measure => simp [intOf]
  ·go_wp2
   go_ret
   exact ⟨rfl, rfl⟩
  ·go_wp2
   go_round
   case rel => exact ⟨2, by omega, by simp, hx⟩
   case measure => simp [intOf]
  ·go_wp2
   go_ret
   exact ⟨rfl, rfl⟩
end Go.Proofs.YtkhiemkekmdhgaaGreatDoor
namespace Go.Proofs.YtkhiemkekmdhgaaGreatDoor.Ty
open Go Go.RowKit
structure Grew (w w' : World) (v v' : Value) : Prop where
 by_ : w.grownBy w' v.ownBlock
 own : v'.ownBlock = v.ownBlock ∨ ∃ k, v'.ownBlock = some k ∧ w.heap.size ≤ k
theorem Grew.refl (w : World) (v : Value) : Grew w w v v := ⟨⟨rfl, rfl, rfl, Nat.le_refl _, fun _ _ _ => rfl⟩, .inl rfl⟩
theorem Grew.trans {w w1 w2 : World} {v v1 v2 : Value} (h : Grew w w1 v v1) (k : Grew w1 w2 v1 v2) : Grew w w2 v v2 := by
 refine ⟨⟨k.by_.os.trans h.by_.os, k.by_.tape.trans h.by_.tape, k.by_.output.trans h.by_.output, Nat.le_trans h.by_.size k.by_.size, fun i hi hne => ?_⟩, ?_⟩
 ·refine (k.by_.block i (Nat.lt_of_lt_of_le hi h.by_.size) ?_).trans (h.by_.block i hi hne)
  rcases h.own with e | ⟨j, e, hj⟩
  ·rw [e]; exact hne
  ·rw [e]; intro e2; have := Option.some.inj e2; omega
 ·rcases k.own with e | ⟨j, e, hj⟩
  ·rcases h.own with e' | ⟨i, e', hi⟩
   ·exact .inl (e.trans e')
   ·exact .inr ⟨i, e.trans e', hi⟩
  ·exact .inr ⟨j, e, Nat.le_trans h.by_.size hj⟩
theorem Grew.behind {w w' : World} {v v' : Value} (o : Obj) (h : Grew (w.alloc o) w' v v') : Grew w w' v v' := by
 refine ⟨⟨h.by_.os, h.by_.tape, h.by_.output, by have := h.by_.size; simp at this; omega, fun i hi hne => ?_⟩, ?_⟩
 ·exact (h.by_.block i (by simp; omega) hne).trans (Below.heap_alloc w o i hi)
 ·rcases h.own with e | ⟨j, e, hj⟩
  ·exact .inl e
  ·exact .inr ⟨j, e, by simp at hj; omega⟩
theorem Grew.drawn {w w' : World} {v v' : Value} (h : Grew w.drew w' v v') : Grew w w' v v' := ⟨⟨h.by_.os, h.by_.tape, h.by_.output, h.by_.size, h.by_.block⟩, h.own⟩
theorem Grew.below {w w' : World} {v v' : Value} (h : Grew w w' v v') {B : Nat} (hB : B ≤ w.heap.size) (hv : ∀ k, v.ownBlock = some k → B ≤ k) : Below B w w' :=
 ⟨h.by_.os, h.by_.tape, h.by_.output, h.by_.size, fun k hk => h.by_.block k (by omega) (fun e => by have := hv k e.symm; omega)⟩
section
variable {P : Program} (w : World)
theorem append_tight (base : Nat) (t ty e : TypeId) (i : TypeInfo) (z : Value) (size bytes : Nat) (ht : P.underlying t = some (.slice e)) (hi : P.info? e = some i) (hz : i.zero = some z)
 (hsize : i.size = size) (hby : i.bytes = bytes) (hzs : z.cells.size = size) (hsz : 0 < size)
 (v : Value) (n : Nat) (xs : List Value) (hown : w.ownsRow base e size v n xs)
 (a : Addr) (m c : Nat) (news : List Value) (hl : news.length = m * size) (hnews : ∀ j u, news[j]? = some u → w.cell? (a.add j) = some u) (h1 : ∀ u ∈ news, u.oneCell' = true)
 (h63 : n + m ≤ maxLen) (hbytes : (n + m) * bytes ≤ 140737488355328) (hbase : base ≤ w.heap.size) :
 ∃ v' w', (Builtin.append_ #[t, t] ty #[v, .slice (some a) m c]).run P w = .ok v' w' ∧ w'.ownsRow base e size v' (n + m) (xs ++ news) ∧ Grew w w' v v' := by
 obtain ⟨v', w', hr, ho, hg, hn⟩ := run_append_own (P := P) w base t ty e i z size bytes ht hi hz hsize hby hzs hsz v n xs hown a m c news hl hnews h1 h63 hbytes hbase
 refine ⟨v', w', hr, ho, hg, ?_⟩
 subst hsize; subst hby
 have hsmall : n + m ≤ 9223372036854775807 := by simp only [maxLen] at h63; omega
 rcases hown.2 with ⟨rfl, rfl⟩ | ⟨g, cap, cur, rfl, hbg, hgg, hnc, hcm, hcs, htake⟩
 ·by_cases hm : m = 0
  ·obtain rfl := hn.2 ⟨rfl, hm⟩
   exact .inl rfl
  ·have hr2 := run_append_nil (P := P) w t ty e i z ht hi hz a m c news hl hnews (by omega) (by omega) (by have hb := hbytes; simp only [Nat.zero_add] at hb; omega)
   rw [hr] at hr2
   injection hr2 with e1 _
   subst e1
   exact .inr ⟨_, rfl, Nat.le_refl _⟩
 ·by_cases hroom : n + m ≤ cap
  ·have hr2 := run_append_room (P := P) w t ty e i ht hi g n cap cur hgg a m c news hl hnews h1 hroom (by rw [hl, hcs, ← Nat.add_mul]; exact Nat.mul_le_mul_right _ hroom)
   rw [hr] at hr2
   injection hr2 with e1 _
   subst e1
   exact .inl rfl
  ·have hr2 := run_append_grow (P := P) w t ty e i z ht hi hz ⟨g, 0, none⟩ n cap xs hown.1 (hown.cells (g := g) rfl) a m c news hl hnews (by omega) (by omega) (growslice_fits (by omega) hbytes)
   rw [hr] at hr2
   injection hr2 with e1 _
   subst e1
   exact .inr ⟨_, rfl, Nat.le_refl _⟩
theorem append_tight_string (base : Nat) (t u ty e : TypeId) (i : TypeInfo) (ht : P.underlying t = some (.slice e)) (hu : P.underlying u = some .string) (hi : P.info? e = some i) (hz : i.zero = some (.int .u8 0))
 (hsize : i.size = 1) (hby : i.bytes = 1) (v : Value) (n : Nat) (xs : List Value) (hown : w.ownsRow base e 1 v n xs) (s : ByteArray)
 (h63 : n + s.size ≤ maxLen) (hbytes : n + s.size ≤ 140737488355328) (hbase : base ≤ w.heap.size) :
 ∃ v' w', (Builtin.append_ #[t, u] ty #[v, .string s]).run P w = .ok v' w' ∧ w'.ownsRow base e 1 v' (n + s.size) (xs ++ Lib.strCells s) ∧ Grew w w' v v' := by
 obtain ⟨v', w', hr, ho, hg, hn⟩ := Lib.run_append_own_string (P := P) w base t u ty e i ht hu hi hz hsize hby v n xs hown s h63 hbytes hbase
 refine ⟨v', w', hr, ho, hg, ?_⟩
 have hxl : xs.length = n := by simpa using hown.1
 rcases hown.2 with ⟨rfl, rfl⟩ | ⟨g, cap, cur, rfl, hbg, hgg, hnc, hcm, hcs, htake⟩
 ·by_cases hm : s.size = 0
  ·obtain rfl := hn.2 ⟨rfl, hm⟩
   exact .inl rfl
  ·have hr2 := run_append_nil_string (P := P) w t u ty e i (.int .u8 0) ht hu hi hz s (by omega) (by omega) (by rw [hby]; omega)
   rw [hr] at hr2
   injection hr2 with e1 _
   subst e1
   exact .inr ⟨_, rfl, Nat.le_refl _⟩
 ·by_cases hroom : n + s.size ≤ cap
  ·have hcs' : cur.size = cap := by simpa using hcs
   have hr2 := Lib.run_append_room_string (P := P) w t u ty e i ht hu hi hsize g n cap cur hgg s hroom (by omega)
   rw [hr] at hr2
   injection hr2 with e1 _
   subst e1
   exact .inl rfl
  ·have hr2 := Lib.run_append_grow_string (P := P) w t u ty e i (.int .u8 0) ht hu hi hz ⟨g, 0, none⟩ n cap xs (by rw [hsize]; simpa using hxl) (hown.cells (g := g) rfl) s (by omega) (by omega) (by rw [hby]; exact growslice_fits (by omega) (by omega))
   rw [hr] at hr2
   injection hr2 with e1 _
   subst e1
   exact .inr ⟨_, rfl, Nat.le_refl _⟩
theorem wpList_append_tight {ops : Array Oper} {rest : List Oper} {o : Oper} {a : Act} {Q : Exit → Act → World → Prop} (hgd : o.guard = none) (s x : Operand) (t : TypeId)
 (ho : o.op = .call { callee := .builtin .append, args := #[s, x], argTypes := #[t, t] })
 (base : Nat) (e : TypeId) (i : TypeInfo) (z : Value) (size bytes : Nat) (ht : P.underlying t = some (.slice e)) (hi : P.info? e = some i) (hz : i.zero = some z)
 (hsize : i.size = size) (hby : i.bytes = bytes) (hzs : z.cells.size = size) (hsz : 0 < size)
 (v : Value) (n : Nat) (xs : List Value) (hs : a.eval s = v) (hown : w.ownsRow base e size v n xs)
 (ad : Addr) (m c : Nat) (news : List Value) (hx : a.eval x = .slice (some ad) m c) (hl : news.length = m * size) (hnews : ∀ j u, news[j]? = some u → w.cell? (ad.add j) = some u) (h1 : ∀ u ∈ news, u.oneCell' = true)
 (h63 : n + m ≤ maxLen) (hbytes : (n + m) * bytes ≤ 140737488355328) (hbase : base ≤ w.heap.size)
 (h : ∀ v' w', w'.ownsRow base e size v' (n + m) (xs ++ news) → Grew w w' v v' → wpList P ops Q rest (a.put o.dst v') w') : wpList P ops Q (o :: rest) a w := by
 refine wpList_plain hgd fun K hK => ?_
 obtain ⟨v', w', hr, h2, h3⟩ := append_tight (P := P) w base t o.type e i z size bytes ht hi hz hsize hby hzs hsz v n xs hown ad m c news hl hnews h1 h63 hbytes hbase
 unfold Oper.wp execOp
 simp only [ho, resolve, invoke, builtin, Sem.run_bind, Sem.run_pure, Result.andThen_ok, List.map_toArray, List.map_cons, List.map_nil, hs, hx, hr]
 exact hK _ _ (h v' w' h2 h3)
theorem wpList_append_tight_string {ops : Array Oper} {rest : List Oper} {o : Oper} {a : Act} {Q : Exit → Act → World → Prop} (hgd : o.guard = none) (sl x : Operand) (t u : TypeId)
 (ho : o.op = .call { callee := .builtin .append, args := #[sl, x], argTypes := #[t, u] })
 (base : Nat) (e : TypeId) (i : TypeInfo) (ht : P.underlying t = some (.slice e)) (hu : P.underlying u = some .string) (hi : P.info? e = some i) (hz : i.zero = some (.int .u8 0))
 (hsize : i.size = 1) (hby : i.bytes = 1)
 (v : Value) (n : Nat) (xs : List Value) (hs : a.eval sl = v) (hown : w.ownsRow base e 1 v n xs) (s : ByteArray) (hx : a.eval x = .string s)
 (h63 : n + s.size ≤ maxLen) (hbytes : n + s.size ≤ 140737488355328) (hbase : base ≤ w.heap.size)
 (h : ∀ v' w', w'.ownsRow base e 1 v' (n + s.size) (xs ++ Lib.strCells s) → Grew w w' v v' → wpList P ops Q rest (a.put o.dst v') w') : wpList P ops Q (o :: rest) a w := by
 refine wpList_plain hgd fun K hK => ?_
 obtain ⟨v', w', hr, h2, h3⟩ := append_tight_string (P := P) w base t u o.type e i ht hu hi hz hsize hby v n xs hown s h63 hbytes hbase
 unfold Oper.wp execOp
 simp only [ho, resolve, invoke, builtin, Sem.run_bind, Sem.run_pure, Result.andThen_ok, List.map_toArray, List.map_cons, List.map_nil, hs, hx, hr]
 exact hK _ _ (h v' w' h2 h3)
end
def B (u : UInt8) : Value := .int .u8 u.toNat
def Buf (base : Nat) (w : World) (v : Value) (bs : List UInt8) : Prop := w.ownsRow base 5 1 v bs.length (bs.map B)
theorem Buf.nil (base : Nat) (w : World) : Buf base w (.slice none 0 0) [] := World.ownsRow_nil w base _ 1
theorem Buf.len {base : Nat} {w : World} {v : Value} {bs : List UInt8} (h : Buf base w v bs) : v = .slice none 0 0 ∨ ∃ g c, v = .slice (some ⟨g, 0, none⟩) bs.length c ∧ base ≤ g ∧ g < w.heap.size := by
 rcases h.2 with ⟨rfl, _⟩ | ⟨g, cap, cur, rfl, hb, hg, _⟩
 ·exact .inl rfl
 ·exact .inr ⟨g, cap, rfl, hb, (Array.getElem?_eq_some_iff.1 hg).1⟩
theorem Buf.kept {base : Nat} {w w' : World} {v : Value} {bs : List UInt8} (h : Buf base w v bs) (hb : ∀ k, v.ownBlock = some k → w'.heap[k]? = w.heap[k]?) : Buf base w' v bs := by
 refine ⟨h.1, ?_⟩
 rcases h.2 with hn | ⟨g, cap, cur, rfl, hbb, hgg, rest⟩
 ·exact .inl hn
 ·exact .inr ⟨g, cap, cur, rfl, hbb, by rw [hb g rfl]; exact hgg, rest⟩
theorem Buf.string {P : Program} {base : Nat} {w : World} {v : Value} {bs : List UInt8} (h : Buf base w v bs) (src dst : TypeId) (hs : P.underlying src = some (.slice 5)) (he : P.underlying 5 = some (.int .u8)) (hd : P.underlying dst = some .string) :
 (convert src dst v).run P w = .ok (.string ⟨bs.toArray⟩) w := by
 rcases h.2 with ⟨rfl, hn⟩ | ⟨g, cap, cur, rfl, hbb, hgg, hnc, hcm, hcs, htake⟩
 ·rw [List.eq_nil_of_length_eq_zero hn]
  exact run_convert_bytes_nil w src _ hs he 0 0 dst hd
 ·have hc := h.cells (g := g) rfl
  have := run_convert_bytes_arg (P := P) w src _ hs he g 0 bs.length cap (bs.map fun u => (u.toNat : Int)) (by simp) (fun i hi => by
   have := hc i (B bs[i]) (by simp [hi])
   have ea : (⟨g, 0, none⟩ : Addr).add i = ⟨g, 0 + i, none⟩ := by unfold Addr.add; split <;> simp_all
   rw [ea] at this
   rw [this]
   simp [B, hi]) dst hd
  rw [this]
  have e : strOfNums (bs.map fun u => (u.toNat : Int)) = ⟨bs.toArray⟩ := by
   unfold strOfNums
   congr 1
   rw [List.map_map]
   congr 1
   conv => rhs; rw [← List.map_id bs]
   apply List.map_congr_left
   intro u _
   simp
  rw [e]
theorem info8 : (Tryz.prog.info? 5).map (fun i => (i.zero, i.size, i.bytes)) = some (some (.int .u8 0), 1, 1) := by kernel_rfl
theorem wpList_append_byte {base : Nat} {w0 : World} {v : Value} {bs : List UInt8} (hown : Buf base w0 v bs) (hb : base ≤ w0.heap.size) (hl : bs.length + 1 ≤ 140737488355328)
 {ops : Array Oper} {rest : List Oper} {o : Oper} {a : Act} {Q : Exit → Act → World → Prop} (s x : Operand) (X : Int) (hgd : o.guard = none)
 (ho : o.op = .call { callee := .builtin .append, args := #[s, x], argTypes := #[98, 98] })
 (hs : a.eval s = v) (hx : a.eval x = .slice (some ⟨w0.heap.size, 0, none⟩) 1 1)
 (h : ∀ v' w', (∀ u : UInt8, X = u.toNat → Buf base w' v' (bs ++ [u])) → Grew w0 w' v v' → wpList Tryz.prog ops Q rest (a.put o.dst v') w') :
 wpList Tryz.prog ops Q (o :: rest) a (w0.alloc (.cells #[.int .u8 X] 5)) := by
 obtain ⟨i0, hi, hz0, hz1, hz2⟩ := info_parts info8
 refine wpList_append_tight _ hgd s x 98 ho base 5 i0 (.int .u8 0) 1 1 Tryz.underlying98 hi hz0 hz1 hz2 rfl (by decide) v bs.length (bs.map B) hs (World.ownsRow.alloc hown _) ⟨w0.heap.size, 0, none⟩ 1 1 [.int .u8 X] hx rfl (cell_one_new _ _ _)
  (fun u hu => by simp at hu; subst hu; rfl) (by unfold maxLen; omega) (by omega) (by simp; omega) fun v' w' h1 h2 => h v' w' (fun u hu => ?_) (h2.behind _)
 subst hu
 unfold Buf
 simpa [B] using h1
theorem wpList_append_text {base : Nat} {w0 : World} {v : Value} {bs : List UInt8} (hown : Buf base w0 v bs) (hb : base ≤ w0.heap.size) {st : ByteArray} (hl : bs.length + st.size ≤ 140737488355328)
 {ops : Array Oper} {rest : List Oper} {o : Oper} {a : Act} {Q : Exit → Act → World → Prop} (s x : Operand) (hgd : o.guard = none)
 (ho : o.op = .call { callee := .builtin .append, args := #[s, x], argTypes := #[98, 9] })
 (hs : a.eval s = v) (hx : a.eval x = .string st)
 (h : ∀ v' w', Buf base w' v' (bs ++ st.data.toList) → Grew w0 w' v v' → wpList Tryz.prog ops Q rest (a.put o.dst v') w') :
 wpList Tryz.prog ops Q (o :: rest) a w0 := by
 obtain ⟨i0, hi, hz0, hz1, hz2⟩ := info_parts info8
 refine wpList_append_tight_string _ hgd s x 98 9 ho base 5 i0 Tryz.underlying98 Tryz.underlying9 hi hz0 hz1 hz2 v bs.length (bs.map B) hs hown st hx
  (by unfold maxLen; omega) hl hb fun v' w' h1 h2 => h v' w' ?_ h2
 unfold Buf
 have e : (bs ++ st.data.toList).length = bs.length + st.size := by rw [List.length_append, Array.length_toList]; rfl
 rw [e, List.map_append]
 exact h1
end Go.Proofs.YtkhiemkekmdhgaaGreatDoor.Ty
namespace Go.Proofs.YtkhiemkekmdhgaaGreatDoor
open Go.RowKit
def Ty.Mid (base : Nat) (w : World) (v0 : Value) (bs : List UInt8) (n k : Nat) (wr : World) (v : Value) : Prop :=
 ∃ done, Ty.encU n = done ++ Ty.low k n ∧ done.length + k ≤ 9 ∧ Ty.Buf base wr v (bs ++ done) ∧ Ty.Grew w wr v0 v
def Ty.Written (base : Nat) (w : World) (v : Value) (bs : List UInt8) (e : Ending) (w' : World) : Prop := ∃ v', e = .returned v' ∧ Ty.Buf base w' v' bs ∧ Ty.Grew w w' v v'
theorem Ty.Mid.first {base : Nat} {w : World} {v : Value} {bs : List UInt8} {n k : Nat} {w1 : World} {v1 : Value} (hk : k = Ty.after (Ty.form n)) {X : Int} (hX : X = ((Ty.head n).toNat : Int)) (h1 : ∀ u : UInt8, X = (u.toNat : Int) → Ty.Buf base w1 v1 (bs ++ [u])) (g1 : Ty.Grew w w1 v v1) : Ty.Mid base w v bs n k w1 v1 :=
 ⟨[Ty.head n], by rw [hk]; exact Ty.encU_split n, by have := Ty.after_le n; simp; omega, h1 _ hX, g1⟩
theorem Ty.Mid.next {base : Nat} {w : World} {v0 v : Value} {bs done : List UInt8} {n k : Nat} {wr w1 : World} {v1 : Value} (hd : Ty.encU n = done ++ Ty.low (k + 1) n) (hl : done.length + (k + 1) ≤ 9) (hG : Ty.Grew w wr v0 v)
 (h1 : ∀ u : UInt8, ((n : Int) / 2 ^ (8 * k) % 256) = (u.toNat : Int) → Ty.Buf base w1 v1 (bs ++ done ++ [u])) (g1 : Ty.Grew wr w1 v v1) : Ty.Mid base w v0 bs n k w1 v1 := by
 refine ⟨done ++ [UInt8.ofNat (n / 256 ^ k % 256)], by rw [hd, Ty.low_succ]; simp, by simp; omega, ?_, hG.trans g1⟩
 have := h1 _ (Ty.low_byte n k)
 simpa using this
theorem Ty.Mid.end {base : Nat} {w : World} {v0 v : Value} {bs done : List UInt8} {n : Nat} {wr : World} (hd : Ty.encU n = done ++ Ty.low 0 n) (hB : Ty.Buf base wr v (bs ++ done)) (hG : Ty.Grew w wr v0 v) : Ty.Written base w v0 (bs ++ Ty.encU n) (.returned v) wr :=
 ⟨v, rfl, by rw [hd]; simpa [Ty.low] using hB, hG⟩
set_option maxHeartbeats 1000000 in
theorem Ty.uint_nat (base : Nat) (v : Value) (bs : List UInt8) (n : Nat) (hn : Ty.U64 n) (w : World) (h : Ty.Tabs w) (hown : Ty.Buf base w v bs) (hb : base ≤ w.heap.size) (hlen : bs.length + 9 ≤ 140737488355328) :
 Calls Tryz.prog 113 #[v, .int .u64 n] w (Ty.Written base w v (bs ++ Ty.encU n)) := by
 have H := h
 obtain ⟨z0, z1, z2, z3, s0, s1, s2, s3, _⟩ := h
 have hf : Ty.form n = 0 ∨ Ty.form n = 1 ∨ Ty.form n = 2 ∨ Ty.form n = 3 := by have := Ty.form_le n; omega
 rcases hf with hf | hf | hf | hf
 all_goals
  have HF := Lib.hid hf
  go_enter Tryz.func113, Tryz.ntmps113
  go_wp2_with fail
  refine (Ty.formOf_c n _ H).mono ?_
  rintro e w' ⟨rfl, rfl⟩
  go_wp2_with (at_builtin; refine Ty.wpList_append_byte hown hb (by omega) (.tmp 14) (.tmp 24) _ rfl rfl rfl rfl ?_; intro v1 w1 h1 g1)
  go_loopw [0, 7] (fun vr i wr => ∃ k : Nat, i = .int .i64 ((k : Int) - 1) ∧ Ty.Mid base w' v bs n k wr vr) (fun _ i _ => (intOf i + 1).toNat)
  case atStart =>
   first
    | exact ⟨0, rfl, Ty.Mid.first (by rw [HF.out]; rfl) (Ty.head0 n HF.out) h1 g1⟩
    | exact ⟨1, rfl, Ty.Mid.first (by rw [HF.out]; rfl) (Ty.head1 n HF.out) h1 g1⟩
    | exact ⟨3, rfl, Ty.Mid.first (by rw [HF.out]; rfl) (Ty.head2 n HF.out) h1 g1⟩
    | exact ⟨8, rfl, Ty.Mid.first (by rw [HF.out]; rfl) (Ty.head3 n HF.out hn) h1 g1⟩
  case round =>
   obtain ⟨k, rfl, hm⟩ := hrel
   obtain ⟨done, hd, hl, hB, hG⟩ := hm
   have Hd := Lib.hid hd
   clear hd h1 g1
   have hbs := hG.by_.size
   rcases k with _ | k
   ·go_wp2
    go_ret
    exact Ty.Mid.end Hd.out hB hG
   ·have hk : k ≤ 8 := by omega
    have hl2 : (bs ++ done).length + 1 ≤ 140737488355328 := by simp; omega
    have hb2 : base ≤ wr.heap.size := by omega
    go_wp2_with (at_builtin; refine Ty.wpList_append_byte hB hb2 hl2 (.tmp 32) (.tmp 38) _ rfl rfl rfl rfl ?_; intro v2 w2 h2 g2)
    go_roundw
    case rel => exact ⟨k, rfl, Ty.Mid.next Hd.out hl hG h2 g2⟩
    case measure => simp [intOf]
theorem Ty.uint_c (base : Nat) (v : Value) (bs : List UInt8) (z : Int) (h0 : 0 ≤ z) (hz : Ty.U64 z.toNat) (w : World) (h : Ty.Tabs w) (hown : Ty.Buf base w v bs) (hb : base ≤ w.heap.size) (hlen : bs.length + 9 ≤ 140737488355328) :
 Calls Tryz.prog 113 #[v, .int .u64 z] w (Ty.Written base w v (bs ++ Ty.encU z.toNat)) := by
 have := Ty.uint_nat base v bs z.toNat hz w h hown hb hlen
 rwa [Int.toNat_of_nonneg h0] at this
end Go.Proofs.YtkhiemkekmdhgaaGreatDoor
namespace Go.Proofs.YtkhiemkekmdhgaaGreatDoor
open Go.RowKit
theorem Ty.w_neg {n : Int} (h : Ty.I64 n) (h0 : n < 0) : IntKind.u64.wrap (IntKind.u64.wrap (-IntKind.u64.wrap (IntKind.u64.wrap n * 2)) - 1) = Ty.zig n := by
 unfold Ty.I64 at h; unfold Ty.zig; simp only [IntKind.wrap_u64]; rw [if_neg (by omega)]; omega
theorem Ty.w_pos {n : Int} (h : Ty.I64 n) (h0 : 0 ≤ n) : IntKind.u64.wrap (IntKind.u64.wrap n * 2) = Ty.zig n := by
 unfold Ty.I64 at h; unfold Ty.zig; simp only [IntKind.wrap_u64]; rw [if_pos (by omega)]; omega
theorem Ty.w_odd {n : Nat} (h : Ty.U64 n) (h0 : n % 2 = 1) : wrap64 (wrap64 (-wrap64 (IntKind.u64.wrap (↑n / 2))) - 1) = Ty.zag n := by
 unfold Ty.U64 at h; unfold Ty.zag; simp only [IntKind.wrap_u64]; unfold wrap64; rw [if_pos (by omega)]; omega
theorem Ty.w_even {n : Nat} (h : Ty.U64 n) (h0 : ¬ n % 2 = 1) : wrap64 (IntKind.u64.wrap (↑n / 2)) = Ty.zag n := by
 unfold Ty.U64 at h; unfold Ty.zag; simp only [IntKind.wrap_u64]; unfold wrap64; rw [if_neg (by omega)]; omega
theorem Ty.ret_i {k : IntKind} {a b : Int} (h : a = b) : Ending.returned (.int k a) = .returned (.int k b) := by rw [h]
set_option maxHeartbeats 400000 in
theorem Ty.unsigned_c (n : Int) (w : World) (hn : Ty.I64 n) :
 Calls Tryz.prog 114 #[.int .i64 n] w fun e w' => e = .returned (.int .u64 (Ty.zig n)) ∧ w' = w := by
 by_cases h : n < 0
 ·have H := Lib.hid (Ty.w_neg hn h)
  go_enter Tryz.func114, Tryz.ntmps114
  go_wp2
  go_ret
  exact ⟨Ty.ret_i H.out, rfl⟩
 ·have H := Lib.hid (Ty.w_pos hn (by omega))
  go_enter Tryz.func114, Tryz.ntmps114
  go_wp2
  go_ret
  exact ⟨Ty.ret_i H.out, rfl⟩
set_option maxHeartbeats 400000 in
theorem Ty.signed_nat (n : Nat) (w : World) (hn : Ty.U64 n) :
 Calls Tryz.prog 131 #[.int .u64 n] w fun e w' => e = .returned (.int .i64 (Ty.zag n)) ∧ w' = w := by
 by_cases h : n % 2 = 1
 ·have H := Lib.hid (Ty.w_odd hn h)
  go_enter Tryz.func131, Tryz.ntmps131
  go_wp2
  go_ret
  exact ⟨Ty.ret_i H.out, rfl⟩
 ·have H := Lib.hid (Ty.w_even hn h)
  go_enter Tryz.func131, Tryz.ntmps131
  go_wp2
  go_ret
  exact ⟨Ty.ret_i H.out, rfl⟩
set_option maxHeartbeats 400000 in
theorem Ty.int_c (base : Nat) (v : Value) (bs : List UInt8) (n : Int) (hn : Ty.I64 n) (w : World) (h : Ty.Tabs w) (hown : Ty.Buf base w v bs) (hb : base ≤ w.heap.size) (hlen : bs.length + 9 ≤ 140737488355328) :
 Calls Tryz.prog 85 #[v, .int .i64 n] w (Ty.Written base w v (bs ++ Ty.encU (Ty.zig n).toNat)) := by
 go_enter Tryz.func85, Tryz.ntmps85
 go_wp2_with fail
 refine (Ty.unsigned_c n _ hn).mono ?_
 rintro e w' ⟨rfl, rfl⟩
 go_wp2_with fail
 refine (Ty.uint_c base v bs _ (Ty.zig_nonneg n) (Ty.zig_u64 hn) _ h hown hb hlen).mono ?_
 rintro e w1 ⟨v1, rfl, hB, hG⟩
 go_wp2
 go_ret
 exact ⟨v1, rfl, hB, hG⟩
set_option maxHeartbeats 400000 in
theorem Ty.text_c (base : Nat) (v : Value) (bs : List UInt8) (s : ByteArray) (w : World) (h : Ty.Tabs w) (hown : Ty.Buf base w v bs) (hb : base ≤ w.heap.size) (hlen : bs.length + 9 + s.size ≤ 140737488355328) :
 Calls Tryz.prog 84 #[v, .string s] w (Ty.Written base w v (bs ++ Ty.encU s.size ++ s.data.toList)) := by
 have hu : Ty.U64 ((s.size : Int)).toNat := by unfold Ty.U64; omega
 have h9 := Ty.encU_len9 s.size
 go_enter Tryz.func84, Tryz.ntmps84
 go_wp2_with fail
 refine (Ty.uint_c base v bs _ (by omega) hu _ h hown hb (by omega)).mono ?_
 rintro e w1 ⟨v1, rfl, hB, hG⟩
 have hs1 := hG.by_.size
 go_wp2_with (at_builtin; refine Ty.wpList_append_text hB (by omega) (by simp; omega) (.tmp 9) (.tmp 10) rfl rfl rfl rfl ?_; intro v2 w2 h2 g2)
 go_ret
 exact ⟨v2, rfl, by simpa using h2, hG.trans g2⟩
end Go.Proofs.YtkhiemkekmdhgaaGreatDoor
namespace Go.Proofs.YtkhiemkekmdhgaaGreatDoor.Ty
theorem wrapu64 (n : Int) (h0 : 0 ≤ n) (h1 : n < 2 ^ 64) : IntKind.u64.wrap n = n := by rw [IntKind.wrap_u64]; omega
def pv (l : List UInt8) : Nat → Nat
 | 0 => 0
 | 1 => (l.getD 0 0).toNat % 64
 | k + 2 => pv l (k + 1) * 256 + (l.getD (k + 1) 0).toNat
def small : Nat → Nat
 | 0 => 0
 | 1 => 64
 | 2 => 16384
 | _ => 1073741824
def num (l : List UInt8) : Nat × Nat × Nat :=
 match l with
 | [] => (0, 0, 2)
 | b :: r => if 192 < b.toNat then (0, 0, 5) else if (b :: r).length < 1 + after (b.toNat / 64) then (0, 0, 2) else
   if pv (b :: r) (1 + after (b.toNat / 64)) < small (b.toNat / 64) then (0, 0, 5) else (pv (b :: r) (1 + after (b.toNat / 64)), 1 + after (b.toNat / 64), 0)
theorem pv_succ (l : List UInt8) (k : Nat) (hk : 1 ≤ k) : pv l (k + 1) = pv l k * 256 + (l.getD k 0).toNat := by
 match k, hk with
 | k + 1, _ => rfl
theorem pv_lt (l : List UInt8) : ∀ k, pv l (k + 1) < 64 * 256 ^ k
 | 0 => by simp [pv]; omega
 | k + 1 => by
   have := pv_lt l k
   have h2 := (l.getD (k + 1) 0).toNat_lt
   rw [pv_succ l (k + 1) (by omega), Nat.pow_succ]
   omega
theorem pv_lt9 (l : List UInt8) (h : (l.getD 0 0).toNat % 64 = 0) : ∀ k, pv l (k + 1) < 256 ^ k
 | 0 => by simp [pv]; simpa using h
 | k + 1 => by
   have := pv_lt9 l h k
   have h2 := (l.getD (k + 1) 0).toNat_lt
   rw [pv_succ l (k + 1) (by omega), Nat.pow_succ]
   omega
theorem or_byte (p b : Nat) (hp : p < 72057594037927936) (hb : b < 256) : bits .or .u64 ((p * 256 : Nat) : Int) (b : Int) = ((p * 256 + b : Nat) : Int) := by
 have h := (bits_nat .u64 64 (by decide) wrapu64 (p * 256) b (by omega) (by omega)).2
 rw [h]
 have := Nat.two_pow_add_eq_or_of_lt (i := 8) (b := b) (by omega) p
 rw [Nat.mul_comm p 256]
 exact congrArg Int.ofNat this.symm
def txt (l : List UInt8) (most : Int) : List UInt8 × Nat × Nat :=
 if (num l).2.2 ≠ 0 then ([], 0, (num l).2.2) else if most < 0 ∨ most < ((num l).1 : Int) then ([], 0, 3) else
  if l.length - (num l).2.1 < (num l).1 then ([], 0, 2) else ((l.drop (num l).2.1).take (num l).1, (num l).2.1 + (num l).1, 0)
theorem num_is (l : List UInt8) (h : 0 < l.length) : num l = if 192 < (l.getD 0 0).toNat then (0, 0, 5) else if l.length < 1 + after ((l.getD 0 0).toNat / 64) then (0, 0, 2) else
 if pv l (1 + after ((l.getD 0 0).toNat / 64)) < small ((l.getD 0 0).toNat / 64) then (0, 0, 5) else (pv l (1 + after ((l.getD 0 0).toNat / 64)), 1 + after ((l.getD 0 0).toNat / 64), 0) := by
 cases l with
 | nil => simp at h
 | cons b r => rfl
theorem num_high {l : List UInt8} (h : 0 < l.length) (hb : 192 < (l.getD 0 0).toNat) : num l = (0, 0, 5) := by rw [num_is l h, if_pos hb]
theorem num_cut {l : List UInt8} (h : 0 < l.length) (hb : ¬ 192 < (l.getD 0 0).toNat) {f : Nat} (hf : (l.getD 0 0).toNat / 64 = f) (hl : l.length < 1 + after f) : num l = (0, 0, 2) := by rw [num_is l h, if_neg hb, hf, if_pos hl]
theorem num_less {l : List UInt8} (h : 0 < l.length) (hb : ¬ 192 < (l.getD 0 0).toNat) {f : Nat} (hf : (l.getD 0 0).toNat / 64 = f) (hl : ¬ l.length < 1 + after f) (hp : pv l (1 + after f) < small f) : num l = (0, 0, 5) := by rw [num_is l h, if_neg hb, hf, if_neg hl, if_pos hp]
theorem num_whole {l : List UInt8} (h : 0 < l.length) (hb : ¬ 192 < (l.getD 0 0).toNat) {f : Nat} (hf : (l.getD 0 0).toNat / 64 = f) (hl : ¬ l.length < 1 + after f) (hp : ¬ pv l (1 + after f) < small f) : num l = (pv l (1 + after f), 1 + after f, 0) := by rw [num_is l h, if_neg hb, hf, if_neg hl, if_neg hp]
theorem or_step (l : List UInt8) (b : UInt8) (k : Nat) (hk : 1 ≤ k) (hp : pv l k < 72057594037927936) (hb : b = l.getD k 0) :
 bits .or .u64 (IntKind.u64.wrap ((pv l k : Int) * 256)) (IntKind.u64.wrap (b.toNat : Int)) = (pv l (k + 1) : Int) := by
 have h2 := b.toNat_lt
 rw [wrapu64 _ (by omega) (by omega), wrapu64 _ (by omega) (by omega), pv_succ l k hk, ← hb]
 exact or_byte (pv l k) b.toNat hp (by omega)
theorem pv_small4 (l : List UInt8) (k : Nat) (h1 : 1 ≤ k) (h : k ≤ 4) : pv l k < 72057594037927936 := by
 have := pv_lt l (k - 1)
 rw [show k - 1 + 1 = k by omega] at this
 have h2 : 256 ^ (k - 1) ≤ 256 ^ 3 := Nat.pow_le_pow_right (by omega) (by omega)
 have h3 : (256 : Nat) ^ 3 = 16777216 := by decide
 omega
theorem pv_small8 (l : List UInt8) (h0 : (l.getD 0 0).toNat % 64 = 0) (k : Nat) (h1 : 1 ≤ k) (h : k ≤ 8) : pv l k < 72057594037927936 := by
 have := pv_lt9 l h0 (k - 1)
 rw [show k - 1 + 1 = k by omega] at this
 have h2 : 256 ^ (k - 1) ≤ 256 ^ 7 := Nat.pow_le_pow_right (by omega) (by omega)
 have h3 : (256 : Nat) ^ 7 = 72057594037927936 := by decide
 omega
theorem num_cases (l : List UInt8) : (num l).2.2 = 0 ∧ l ≠ [] ∧ (∃ f, f ≤ 3 ∧ 64 * f ≤ (l.getD 0 0).toNat ∧ (l.getD 0 0).toNat < 64 * f + 64 ∧ (l.getD 0 0).toNat ≤ 192 ∧ num l = (pv l (1 + after f), 1 + after f, 0) ∧ 1 + after f ≤ l.length ∧ small f ≤ pv l (1 + after f)) ∨
 ((num l).2.2 = 2 ∨ (num l).2.2 = 5) ∧ (num l).1 = 0 ∧ (num l).2.1 = 0 := by
 by_cases h0 : 0 < l.length
 ·by_cases h1 : 192 < (l.getD 0 0).toNat
  ·right; rw [num_high h0 h1]; simp
  ·obtain ⟨f, hf⟩ : ∃ f, (l.getD 0 0).toNat / 64 = f := ⟨_, rfl⟩
   by_cases h2 : l.length < 1 + after f
   ·right; rw [num_cut h0 h1 hf h2]; simp
   ·by_cases h3 : pv l (1 + after f) < small f
    ·right; rw [num_less h0 h1 hf h2 h3]; simp
    ·left
     have e := num_whole h0 h1 hf h2 h3
     exact ⟨by rw [e], by intro e; subst e; simp at h0, f, by omega, by omega, by omega, by omega, e, by omega, by omega⟩
 ·right
  have : l = [] := List.eq_nil_of_length_eq_zero (by omega)
  subst this
  simp [num]
theorem num_u64 (l : List UInt8) : U64 (num l).1 := by
 rcases num_cases l with ⟨_, _, f, hf, h1, h2, h3, e, _, _⟩ | ⟨_, h, _⟩
 ·rw [e]
  unfold U64
  rcases (by omega : f = 0 ∨ f = 1 ∨ f = 2 ∨ f = 3) with rfl | rfl | rfl | rfl
  ·have := pv_lt l 0; show pv l (0 + 1) < 2 ^ 64; omega
  ·have := pv_lt l 1; show pv l (1 + 1) < 2 ^ 64; omega
  ·have := pv_lt l 3; show pv l (3 + 1) < 2 ^ 64; omega
  ·have := pv_lt9 l (by omega) 8; show pv l (8 + 1) < 2 ^ 64; omega
 ·rw [h]; unfold U64; omega
theorem num_size (l : List UInt8) : (num l).2.1 ≤ l.length := by
 rcases num_cases l with ⟨_, _, f, hf, h1, h2, h3, e, hl, _⟩ | ⟨_, _, h⟩
 ·rw [e]; exact hl
 ·rw [h]; omega
theorem num_size9 (l : List UInt8) : (num l).2.1 ≤ 9 := by
 rcases num_cases l with ⟨_, _, f, hf, h1, h2, h3, e, hl, _⟩ | ⟨_, _, h⟩
 ·rw [e]
  rcases (by omega : f = 0 ∨ f = 1 ∨ f = 2 ∨ f = 3) with rfl | rfl | rfl | rfl <;> simp [after]
 ·rw [h]; omega
theorem num_err (l : List UInt8) (h : (num l).2.2 ≠ 0) : (num l).1 = 0 ∧ (num l).2.1 = 0 := by
 rcases num_cases l with ⟨h0, _⟩ | ⟨_, h1, h2⟩
 ·exact absurd h0 h
 ·exact ⟨h1, h2⟩
theorem txt_bad {l : List UInt8} {most : Int} (h : (num l).2.2 ≠ 0) : txt l most = ([], 0, (num l).2.2) := by unfold txt; rw [if_pos h]
theorem txt_long {l : List UInt8} {most : Int} (h : (num l).2.2 = 0) (h2 : most < 0 ∨ most < ((num l).1 : Int)) : txt l most = ([], 0, 3) := by unfold txt; rw [if_neg (by omega), if_pos h2]
theorem txt_short {l : List UInt8} {most : Int} (h : (num l).2.2 = 0) (h2 : ¬ (most < 0 ∨ most < ((num l).1 : Int))) (h3 : l.length - (num l).2.1 < (num l).1) : txt l most = ([], 0, 2) := by unfold txt; rw [if_neg (by omega), if_neg h2, if_pos h3]
theorem txt_whole {l : List UInt8} {most : Int} (h : (num l).2.2 = 0) (h2 : ¬ (most < 0 ∨ most < ((num l).1 : Int))) (h3 : ¬ l.length - (num l).2.1 < (num l).1) : txt l most = ((l.drop (num l).2.1).take (num l).1, (num l).2.1 + (num l).1, 0) := by unfold txt; rw [if_neg (by omega), if_neg h2, if_neg h3]
theorem txt_size (l : List UInt8) (most : Int) : (txt l most).2.1 ≤ l.length := by
 have := num_size l
 unfold txt
 split
 ·simp
 ·split
  ·simp
  ·split
   ·simp
   ·simp only; omega
end Go.Proofs.YtkhiemkekmdhgaaGreatDoor.Ty
