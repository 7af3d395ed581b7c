/-
  The plain mathematics of package tally: what the bytes of a number are, what is read of bytes. No program.
-/
import Derived.Laws.BitsLemmas
namespace Go.Proofs.Ytdjnjhlcdcmeaaa.Ty

/-- The form of a number: how many of the bounds it reaches. -/
def form (n : Nat) : Nat := if n < 64 then 0 else if n < 16384 then 1 else if n < 1073741824 then 2 else 3
/-- Bytes behind the first one, by form. -/
def after : Nat → Nat
  | 0 => 0
  | 1 => 1
  | 2 => 3
  | _ => 8
/-- The lowest k bytes of n, the most significant one first. -/
def low : Nat → Nat → List UInt8
  | 0, _ => []
  | k + 1, n => UInt8.ofNat (n / 256 ^ k % 256) :: low k n
/-- The first byte of a number. -/
def head (n : Nat) : UInt8 := UInt8.ofNat (64 * form n + (if form n = 3 then 0 else n / 256 ^ after (form n)))
/-- The encoding of an unsigned number. -/
def encU (n : Nat) : List UInt8 := head n :: low (after (form n)) n

theorem form_le (n : Nat) : form n ≤ 3 := by unfold form; (repeat' split) <;> omega

theorem form_is (n : Nat) : (n < 64 ∧ form n = 0) ∨ (¬ n < 64 ∧ n < 16384 ∧ form n = 1) ∨ (¬ n < 16384 ∧ n < 1073741824 ∧ form n = 2) ∨ (¬ n < 1073741824 ∧ form n = 3) := by
  unfold form; (repeat' split) <;> omega

theorem low_length (k n : Nat) : (low k n).length = k := by induction k with
  | zero => rfl
  | succ k ih => simp [low, ih]

theorem or_head : ∀ (f : Fin 4) (x : Fin 64), (64 * f.val ||| x.val) = 64 * f.val + x.val := by decide

theorem or_u8 (f x : Nat) (hf : f < 4) (hx : x < 64) : bits .or .u8 ((64 * f : Nat) : Int) (x : Int) = ((64 * f + x : Nat) : Int) := by
  have h := (bits_nat .u8 8 (by decide) wraps_u8 (64 * f) x (by omega) (by omega)).2
  rw [h, or_head ⟨f, hf⟩ ⟨x, hx⟩]

theorem toNat_ofNat8 (n : Nat) (h : n < 256) : (UInt8.ofNat n).toNat = n := by simp [UInt8.toNat_ofNat']; omega

/-- A number of 64 bits. -/
def U64 (n : Nat) : Prop := n < 2 ^ 64

theorem head_of (n f x : Nat) (C X : Int) (hC : C = ((64 * f : Nat) : Int)) (hX : X = (x : Int)) (hf : f < 4) (hx : x < 64) (hh : head n = UInt8.ofNat (64 * f + x)) : bits .or .u8 C X = ((head n).toNat : Int) := by
  rw [hC, hX, or_u8 f x hf hx, hh, toNat_ofNat8 _ (by omega)]

theorem head0 (n : Nat) (h : form n = 0) : bits .or .u8 0 ((n : Int) % 256) = ((head n).toNat : Int) := by
  have hb := form_is n
  exact head_of n 0 n _ _ rfl (by omega) (by omega) (by omega) (by unfold head; simp [h, after])
theorem head1 (n : Nat) (h : form n = 1) : bits .or .u8 64 ((n : Int) / 256 % 256) = ((head n).toNat : Int) := by
  have hb := form_is n
  exact head_of n 1 (n / 256) _ _ rfl (by omega) (by omega) (by omega) (by unfold head; simp [h, after])
theorem head2 (n : Nat) (h : form n = 2) : bits .or .u8 128 ((n : Int) / 16777216 % 256) = ((head n).toNat : Int) := by
  have hb := form_is n
  exact head_of n 2 (n / 16777216) _ _ rfl (by omega) (by omega) (by omega) (by unfold head; simp [h, after])
theorem head3 (n : Nat) (h : form n = 3) (hn : U64 n) : bits .or .u8 192 ((n : Int) / 18446744073709551616 % 256) = ((head n).toNat : Int) := by
  unfold U64 at hn
  exact head_of n 3 0 _ _ rfl (by omega) (by omega) (by omega) (by unfold head; simp [h])

theorem low_byte (n k : Nat) : ((n : Int) / 2 ^ (8 * k) % 256) = ((UInt8.ofNat (n / 256 ^ k % 256)).toNat : Int) := by
  rw [toNat_ofNat8 _ (Nat.mod_lt _ (by omega))]
  have e : (2 : Int) ^ (8 * k) = ((256 ^ k : Nat) : Int) := by
    rw [Int.pow_mul, Int.natCast_pow]; rfl
  rw [e]
  simp
theorem low_succ (n k : Nat) : low (k + 1) n = UInt8.ofNat (n / 256 ^ k % 256) :: low k n := rfl
theorem encU_split (n : Nat) : encU n = [head n] ++ low (after (form n)) n := rfl
theorem encU_length (n : Nat) : (encU n).length = 1 + after (form n) := by simp [encU, low_length]; omega
theorem after_le (n : Nat) : after (form n) ≤ 8 := by
  rcases form_is n with ⟨_, h⟩ | ⟨_, _, h⟩ | ⟨_, _, h⟩ | ⟨_, h⟩ <;> rw [h] <;> decide
/-- A signed number as an unsigned one. -/
def zig (n : Int) : Int := if 0 ≤ n then 2 * n else -2 * n - 1
/-- And back. -/
def zag (n : Int) : Int := if n % 2 = 1 then -(n / 2) - 1 else n / 2
/-- A signed number of 64 bits. -/
def I64 (n : Int) : Prop := -9223372036854775808 ≤ n ∧ n ≤ 9223372036854775807
theorem zig_nonneg (n : Int) : 0 ≤ zig n := by unfold zig; split <;> omega
theorem zig_u64 {n : Int} (h : I64 n) : U64 (zig n).toNat := by unfold zig U64; unfold I64 at h; split <;> omega
theorem zag_i64 {n : Nat} (h : U64 n) : I64 (zag n) := by unfold zag I64; unfold U64 at h; split <;> omega
theorem zag_zig (n : Int) : zag (zig n) = n := by unfold zag zig; (repeat' split) <;> omega
theorem zig_zag {n : Int} (h : 0 ≤ n) : zig (zag n) = n := by unfold zag zig; (repeat' split) <;> omega
theorem encU_len9 (n : Nat) : (encU n).length ≤ 9 := by rw [encU_length]; have := after_le n; omega
end Go.Proofs.Ytdjnjhlcdcmeaaa.Ty
