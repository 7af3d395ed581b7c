/-
  Package packed: the plain mathematics: numbers as a byte of their width and as many bits each. No program.
-/
import Derived.Test.YtkgmildbhelelaaDoorB8
import Derived.Test.YtkgmildbhelelaaDoorW7
namespace Go.Proofs.YtkgmildbhelelaaDoor
open Go.RowKit
/-- The bytes of numbers that have as few bits as they need. -/
def Pk.enc (n : Nat) (X : Nat → Nat) : List UInt8 := UInt8.ofNat (Bt.wid n X) :: (Bt.bytes (Bt.need (n * Bt.wid n X)) (Bt.pk n X (Bt.wid n X))).data.toList
/-- The first byte; the bytes of the numbers; what is behind them; the numbers. -/
def Pk.q (l : List UInt8) : Nat := (l.headD 0).toNat
def Pk.str (n : Nat) (l : List UInt8) : ByteArray := Ty.S (l.tail.take (Bt.need (n * Pk.q l)))
def Pk.rest (n : Nat) (l : List UInt8) : List UInt8 := l.tail.drop (Bt.need (n * Pk.q l))
def Pk.X (n : Nat) (l : List UInt8) : Nat → Nat := Bt.nums (Pk.str n l) (Pk.q l)
/-- The first error. -/
def Pk.err (n : Nat) (l : List UInt8) : Nat :=
  if l = [] then 2 else if 64 < Pk.q l then 4 else if l.tail.length < Bt.need (n * Pk.q l) then 2
  else if Bt.chk (Pk.str n l) (n * Pk.q l) ≠ 0 then Bt.chk (Pk.str n l) (n * Pk.q l)
  else if Bt.wid n (Pk.X n l) < Pk.q l then 4 else 0
theorem Pk.X_lt (n : Nat) (l : List UInt8) (h : Pk.q l ≤ 64) : ∀ i, Pk.X n l i < 2 ^ 64 := fun _ => Nat.lt_of_lt_of_le (Bt.num_lt _ _) (Nat.pow_le_pow_right (by decide) h)
theorem Pk.wid_le (n : Nat) (l : List UInt8) : Bt.wid n (Pk.X n l) ≤ Pk.q l := (Bt.wid_le n _ _).2 fun _ _ => Bt.num_lt _ _
section
variable {n : Nat} {r : List UInt8} {x : UInt8}
theorem Pk.err1 : Pk.err n [] = 2 := by unfold Pk.err; rw [if_pos rfl]
theorem Pk.err2 (h : 64 < x.toNat) : Pk.err n (x :: r) = 4 := by
  unfold Pk.err
  rw [if_neg (by simp), if_pos (by exact h)]
theorem Pk.err3 (h : ¬ 64 < x.toNat) (h2 : r.length < Bt.need (n * x.toNat)) : Pk.err n (x :: r) = 2 := by
  unfold Pk.err
  rw [if_neg (by simp), if_neg (by exact h), if_pos (by exact h2)]
theorem Pk.err4 (h : ¬ 64 < x.toNat) (h2 : ¬ r.length < Bt.need (n * x.toNat)) (h3 : Bt.chk (Ty.S (r.take (Bt.need (n * x.toNat)))) (n * x.toNat) ≠ 0) : Pk.err n (x :: r) = Bt.chk (Ty.S (r.take (Bt.need (n * x.toNat)))) (n * x.toNat) := by
  unfold Pk.err
  rw [if_neg (by simp), if_neg (by exact h), if_neg (by exact h2), if_pos (by exact h3)]
  rfl
theorem Pk.err5 (h : ¬ 64 < x.toNat) (h2 : ¬ r.length < Bt.need (n * x.toNat)) (h3 : Bt.chk (Ty.S (r.take (Bt.need (n * x.toNat)))) (n * x.toNat) = 0) (h4 : Bt.wid n (Bt.nums (Ty.S (r.take (Bt.need (n * x.toNat)))) x.toNat) < x.toNat) : Pk.err n (x :: r) = 4 := by
  unfold Pk.err
  rw [if_neg (by simp), if_neg (by exact h), if_neg (by exact h2), if_neg (fun e => e h3), if_pos (by exact h4)]
theorem Pk.err6 (h : ¬ 64 < x.toNat) (h2 : ¬ r.length < Bt.need (n * x.toNat)) (h3 : Bt.chk (Ty.S (r.take (Bt.need (n * x.toNat)))) (n * x.toNat) = 0) (h4 : ¬ Bt.wid n (Bt.nums (Ty.S (r.take (Bt.need (n * x.toNat)))) x.toNat) < x.toNat) : Pk.err n (x :: r) = 0 := by
  unfold Pk.err
  rw [if_neg (by simp), if_neg (by exact h), if_neg (by exact h2), if_neg (fun e => e h3), if_neg (by exact h4)]
end
/-- Of what is without error. -/
theorem Pk.good {n : Nat} {l : List UInt8} (h : Pk.err n l = 0) : ∃ x r, l = x :: r ∧ x.toNat ≤ 64 ∧ Bt.need (n * x.toNat) ≤ r.length ∧ Bt.chk (Ty.S (r.take (Bt.need (n * x.toNat)))) (n * x.toNat) = 0 ∧ Bt.wid n (Pk.X n l) = x.toNat ∧ Pk.q l = x.toNat ∧ Pk.X n l = Bt.nums (Ty.S (r.take (Bt.need (n * x.toNat)))) x.toNat ∧ Pk.rest n l = r.drop (Bt.need (n * x.toNat)) := by
  cases l with
  | nil => rw [Pk.err1] at h; cases h
  | cons x r =>
    by_cases h1 : 64 < x.toNat
    · rw [Pk.err2 h1] at h; cases h
    · by_cases h2 : r.length < Bt.need (n * x.toNat)
      · rw [Pk.err3 h1 h2] at h; cases h
      · by_cases h3 : Bt.chk (Ty.S (r.take (Bt.need (n * x.toNat)))) (n * x.toNat) = 0
        · have hle := Pk.wid_le n (x :: r)
          have hq : Pk.q (x :: r) = x.toNat := rfl
          have hX : Pk.X n (x :: r) = Bt.nums (Ty.S (r.take (Bt.need (n * x.toNat)))) x.toNat := rfl
          by_cases h4 : Bt.wid n (Bt.nums (Ty.S (r.take (Bt.need (n * x.toNat)))) x.toNat) < x.toNat
          · rw [Pk.err5 h1 h2 h3 h4] at h; cases h
          · rw [hX, hq] at hle
            exact ⟨x, r, rfl, by omega, by omega, h3, by rw [hX]; omega, rfl, rfl, rfl⟩
        · rw [Pk.err4 h1 h2 h3] at h; exact absurd h h3
end Go.Proofs.YtkgmildbhelelaaDoor
