/-
  The plain mathematics of package frame: the register of the checksum, on numbers without bound; a burst of up to 32 bits always moves it. No program.
-/
import Derived.Test.YtkbkhohknniibaaB1
namespace Go.Proofs.Ytkbkhohknniibaa.Fr
open Go
/-- The polynomial, turned round. -/
def P : Nat := 2197175160
/-- One shift of the register. -/
def T (r : Nat) : Nat := (r / 2) ^^^ (if r % 2 = 1 then P else 0)
theorem xor_half (a b : Nat) : (a ^^^ b) / 2 = (a / 2) ^^^ (b / 2) := by
  have := Nat.shiftRight_xor_distrib (a := a) (b := b) (i := 1)
  simpa [Nat.shiftRight_eq_div_pow] using this
theorem xor_odd (a b : Nat) : (a ^^^ b) % 2 = (a + b) % 2 := by
  have h := Nat.testBit_xor a b 0
  simp only [Nat.testBit_zero] at h
  rcases Nat.mod_two_eq_zero_or_one a with ha | ha <;> rcases Nat.mod_two_eq_zero_or_one b with hb | hb <;> rcases Nat.mod_two_eq_zero_or_one (a ^^^ b) with hc | hc <;> simp [ha, hb, hc] at h <;> omega
theorem T_xor (a b : Nat) : T (a ^^^ b) = T a ^^^ T b := by
  unfold T
  rw [xor_half, xor_odd]
  rcases Nat.mod_two_eq_zero_or_one a with ha | ha <;> rcases Nat.mod_two_eq_zero_or_one b with hb | hb
  · rw [if_neg (by omega), if_neg (by omega), if_neg (by omega)]; simp
  · rw [if_pos (by omega), if_neg (by omega), if_pos hb]; simp [Nat.xor_assoc]
  · rw [if_pos (by omega), if_pos ha, if_neg (by omega)]
    rw [Nat.xor_zero, Nat.xor_assoc, Nat.xor_assoc, Nat.xor_comm P]
  · rw [if_neg (by omega), if_pos ha, if_pos hb, Nat.xor_zero]
    have e : (a / 2 ^^^ P) ^^^ (b / 2 ^^^ P) = (a / 2 ^^^ b / 2) ^^^ (P ^^^ P) := by
      rw [Nat.xor_assoc, Nat.xor_assoc, ← Nat.xor_assoc P, Nat.xor_comm P, Nat.xor_assoc]
    rw [e, Nat.xor_self, Nat.xor_zero]
theorem T_zero : T 0 = 0 := rfl
theorem T_double (r : Nat) : T (2 * r) = r := by
  unfold T
  rw [if_neg (by omega), Nat.xor_zero]
  omega
theorem T_lt {r : Nat} (h : r < 2 ^ 32) : T r < 2 ^ 32 := by
  unfold T
  refine Nat.xor_lt_two_pow (by omega) ?_
  split
  · decide
  · decide
theorem T_nonzero {r : Nat} (h : r < 2 ^ 32) (h0 : T r = 0) : r = 0 := by
  unfold T at h0
  by_cases ho : r % 2 = 1
  · rw [if_pos ho] at h0
    have e : r / 2 = P := by
      have := congrArg (· ^^^ P) h0
      simpa [Nat.xor_assoc] using this
    have : P < 2 ^ 31 := by rw [← e]; omega
    exact absurd this (by decide)
  · rw [if_neg ho, Nat.xor_zero] at h0
    omega
/-- So many shifts. -/
def Tn : Nat → Nat → Nat
  | 0, r => r
  | k + 1, r => Tn k (T r)
theorem Tn_add (j k r : Nat) : Tn (j + k) r = Tn k (Tn j r) := by
  induction j generalizing r with
  | zero => rw [Nat.zero_add]; rfl
  | succ j ih => rw [Nat.succ_add]; exact ih (T r)
theorem Tn_xor (k a b : Nat) : Tn k (a ^^^ b) = Tn k a ^^^ Tn k b := by
  induction k generalizing a b with
  | zero => rfl
  | succ k ih =>
    show Tn k (T (a ^^^ b)) = _
    rw [T_xor]
    exact ih (T a) (T b)
theorem Tn_zero (k : Nat) : Tn k 0 = 0 := by
  induction k with
  | zero => rfl
  | succ k ih => exact ih
theorem Tn_shift (k r : Nat) : Tn k (2 ^ k * r) = r := by
  induction k generalizing r with
  | zero => simp [Tn]
  | succ k ih =>
    show Tn k (T (2 ^ (k + 1) * r)) = r
    have e : 2 ^ (k + 1) * r = 2 * (2 ^ k * r) := by rw [Nat.pow_succ, Nat.mul_comm (2 ^ k) 2, Nat.mul_assoc]
    rw [e, T_double, ih]
theorem Tn_lt {k r : Nat} (h : r < 2 ^ 32) : Tn k r < 2 ^ 32 := by
  induction k generalizing r with
  | zero => exact h
  | succ k ih => exact ih (T_lt h)
theorem Tn_nonzero {k r : Nat} (h : r < 2 ^ 32) (h0 : Tn k r = 0) : r = 0 := by
  induction k generalizing r with
  | zero => exact h0
  | succ k ih => exact T_nonzero h (ih (T_lt h) h0)
/-- Half a byte at a time: what is in the high part moves down, the low part is looked up. -/
theorem Tn_split (k r : Nat) : Tn k r = (r / 2 ^ k) ^^^ Tn k (r % 2 ^ k) := by
  have e : r = (2 ^ k * (r / 2 ^ k)) ^^^ (r % 2 ^ k) := by
    have h := Nat.div_add_mod r (2 ^ k)
    have h2 := Nat.mod_lt r (Nat.two_pow_pos k)
    refine Nat.eq_of_testBit_eq fun i => ?_
    rw [Nat.testBit_xor, Nat.testBit_two_pow_mul, Nat.testBit_mod_two_pow, Nat.testBit_div_two_pow]
    by_cases hi : k ≤ i
    · have h3 : ¬ i < k := by omega
      have h4 : i - k + k = i := by omega
      simp [hi, h3, h4]
    · have h3 : i < k := by omega
      simp [hi, h3]
  conv => lhs; rw [e]
  rw [Tn_xor, Tn_shift]
/-- The register behind bytes. -/
def reg : Nat → List UInt8 → Nat
  | r, [] => r
  | r, b :: l => reg (Tn 8 (r ^^^ b.toNat)) l
/-- Bytes as one number, the lowest first. -/
def val : List UInt8 → Nat
  | [] => 0
  | b :: l => 256 * val l + b.toNat
theorem val_append (a b : List UInt8) : val (a ++ b) = val a + 256 ^ a.length * val b := by
  induction a with
  | nil => simp [val]
  | cons x a ih =>
    have e : val (x :: a ++ b) = 256 * val (a ++ b) + x.toNat := rfl
    rw [e, ih]
    simp only [val, List.length_cons, Nat.pow_succ]
    rw [Nat.mul_add, ← Nat.mul_assoc, Nat.mul_comm 256 (256 ^ a.length)]
    omega
theorem val_lt (l : List UInt8) : val l < 2 ^ (8 * l.length) := by
  induction l with
  | nil => simp [val]
  | cons b l ih =>
    have hb := b.toNat_lt
    have e : 2 ^ (8 * (b :: l).length) = 256 * 2 ^ (8 * l.length) := by
      rw [List.length_cons, Nat.mul_add, Nat.pow_add, Nat.mul_comm]
    rw [e]
    unfold val
    omega
theorem testBit_val (l : List UInt8) (i : Nat) : (val l).testBit i = (l.getD (i / 8) 0).toNat.testBit (i % 8) := by
  induction l generalizing i with
  | nil => simp [val]
  | cons b l ih =>
    have e : val (b :: l) = 2 ^ 8 * val l + b.toNat := rfl
    rw [e, Nat.testBit_two_pow_mul_add _ (by simpa using b.toNat_lt)]
    by_cases h : i < 8
    · rw [if_pos h]
      have h1 : i / 8 = 0 := by omega
      have h2 : i % 8 = i := by omega
      rw [h1, h2]
      rfl
    · rw [if_neg h, ih]
      have h1 : i / 8 = (i - 8) / 8 + 1 := by omega
      have h2 : i % 8 = (i - 8) % 8 := by omega
      rw [h1, h2]
      rfl
/-- The register behind bytes is that behind as many shifts of the bytes' number. -/
theorem reg_is (l : List UInt8) : ∀ r, reg r l = Tn (8 * l.length) (r ^^^ val l) := by
  induction l with
  | nil => intro r; simp [reg, val, Tn]
  | cons b l ih =>
    intro r
    have e1 : 8 * (b :: l).length = 8 + 8 * l.length := by simp; omega
    have e2 : val (b :: l) = (2 ^ 8 * val l) ^^^ b.toNat := by
      have hb : b.toNat < 2 ^ 8 := by simpa using b.toNat_lt
      refine Nat.eq_of_testBit_eq fun i => ?_
      have e : val (b :: l) = 2 ^ 8 * val l + b.toNat := rfl
      rw [e, Nat.testBit_two_pow_mul_add _ hb, Nat.testBit_xor, Nat.testBit_two_pow_mul]
      by_cases h : i < 8
      · have h2 : ¬ 8 ≤ i := by omega
        simp [h, h2]
      · have h2 : 8 ≤ i := by omega
        have h3 : b.toNat.testBit i = false := Nat.testBit_lt_two_pow (Nat.lt_of_lt_of_le hb (Nat.pow_le_pow_right (by decide) h2))
        simp [h, h2, h3]
    have e3 : r ^^^ val (b :: l) = (r ^^^ b.toNat) ^^^ (2 ^ 8 * val l) := by
      rw [e2, Nat.xor_comm (2 ^ 8 * val l), Nat.xor_assoc]
    rw [e1, Tn_add, e3, Tn_xor, Tn_shift]
    exact ih _
theorem reg_append (a b : List UInt8) (r : Nat) : reg r (a ++ b) = reg (reg r a) b := by
  induction a generalizing r with
  | nil => rfl
  | cons x a ih => exact ih _
theorem reg_lt (l : List UInt8) : ∀ r, r < 2 ^ 32 → reg r l < 2 ^ 32 := by
  induction l with
  | nil => intro r h; exact h
  | cons b l ih =>
    intro r h
    exact ih _ (Tn_lt (Nat.xor_lt_two_pow h (Nat.lt_of_lt_of_le b.toNat_lt (by decide))))
/-- All bits 1. -/
def ones : Nat := 4294967295
/-- The checksum. -/
def sum (l : List UInt8) : Nat := reg ones l ^^^ ones
theorem sum_lt (l : List UInt8) : sum l < 2 ^ 32 := Nat.xor_lt_two_pow (reg_lt l ones (by decide)) (by decide)
/-- The checksum is right just where the register behind text and checksum is the one that it always is. -/
theorem right_iff (l q : List UInt8) (hq : q.length = 4) : val q = sum l ↔ reg ones (l ++ q) = Tn 32 ones := by
  have hR := reg_lt l ones (by decide)
  have hQ : val q < 2 ^ 32 := by have := val_lt q; rwa [hq] at this
  rw [reg_append, reg_is q, hq]
  unfold sum
  generalize reg ones l = R at hR ⊢
  generalize val q = Q at hQ ⊢
  constructor
  · rintro rfl
    rw [← Nat.xor_assoc, Nat.xor_self, Nat.zero_xor]
  · intro h
    have h2 : Tn 32 ((R ^^^ Q) ^^^ ones) = 0 := by
      rw [Tn_xor, show Tn 32 (R ^^^ Q) = Tn 32 ones from h, Nat.xor_self]
    have h3 := Tn_nonzero (Nat.xor_lt_two_pow (Nat.xor_lt_two_pow hR hQ) (by decide)) h2
    have h4 := congrArg (fun x => R ^^^ (x ^^^ ones)) h3
    simp only [Nat.zero_xor] at h4
    rw [← h4, Nat.xor_assoc, Nat.xor_assoc, Nat.xor_self, Nat.xor_zero, ← Nat.xor_assoc, Nat.xor_self, Nat.zero_xor]
/-- A BURST: the bits of B, from bit p on, are turned. -/
theorem burst {l m : List UInt8} {p B r : Nat} (hlen : m.length = l.length) (hB : 0 < B) (hB2 : B < 2 ^ 32) (hp : B < 2 ^ (8 * l.length - p)) (hp2 : p ≤ 8 * l.length)
    (h : ∀ i, i < 8 * l.length → (m.getD (i / 8) 0).toNat.testBit (i % 8) = ((l.getD (i / 8) 0).toNat.testBit (i % 8) ^^ (decide (p ≤ i) && B.testBit (i - p)))) : reg r m ≠ reg r l := by
  have hv : val m = val l ^^^ (2 ^ p * B) := by
    refine Nat.eq_of_testBit_eq fun i => ?_
    rw [Nat.testBit_xor, Nat.testBit_two_pow_mul, testBit_val, testBit_val]
    by_cases hi : i < 8 * l.length
    · exact h i hi
    · have h1 : m.getD (i / 8) 0 = 0 := by rw [List.getD, List.getElem?_eq_none (by omega)]; rfl
      have h2 : l.getD (i / 8) 0 = 0 := by rw [List.getD, List.getElem?_eq_none (by omega)]; rfl
      have h3 : B.testBit (i - p) = false := Nat.testBit_lt_two_pow (Nat.lt_of_lt_of_le hp (Nat.pow_le_pow_right (by decide) (by omega)))
      rw [h1, h2, h3]
      simp
  rw [reg_is, reg_is, hlen, hv, ← Nat.xor_assoc, Tn_xor _ (r ^^^ val l)]
  intro e
  have h1 : Tn (8 * l.length) (2 ^ p * B) = 0 := by
    have := congrArg (fun x => Tn (8 * l.length) (r ^^^ val l) ^^^ x) e
    rw [← Nat.xor_assoc, Nat.xor_self, Nat.zero_xor] at this
    exact this
  have h2 : 8 * l.length = p + (8 * l.length - p) := by omega
  rw [h2, Tn_add, Tn_shift] at h1
  have := Tn_nonzero hB2 h1
  omega
/-- A burst in a text and its checksum is found. -/
theorem found {a b q s : List UInt8} {p B : Nat} (hq : q.length = 4) (hs : s.length = 4) (hlen : b.length = a.length) (hok : val q = sum a) (hB : 0 < B) (hB2 : B < 2 ^ 32) (hp : B < 2 ^ (8 * (a ++ q).length - p)) (hp2 : p ≤ 8 * (a ++ q).length)
    (h : ∀ i, i < 8 * (a ++ q).length → ((b ++ s).getD (i / 8) 0).toNat.testBit (i % 8) = (((a ++ q).getD (i / 8) 0).toNat.testBit (i % 8) ^^ (decide (p ≤ i) && B.testBit (i - p)))) : val s ≠ sum b := by
  intro e
  have h1 := (right_iff a q hq).1 hok
  have h2 := (right_iff b s hs).1 e
  exact burst (r := ones) (by rw [List.length_append, List.length_append, hq, hs, hlen]) hB hB2 hp hp2 h (h2.trans h1.symm)
end Go.Proofs.Ytkbkhohknniibaa.Fr
