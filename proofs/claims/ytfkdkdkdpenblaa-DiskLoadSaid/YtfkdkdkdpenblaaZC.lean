/-
  The laws' own 'lives' answers true.
  What the laws of tally want of a buffer that begins as nil.
  The plain mathematics of package tally: bytes are ordered as numbers. No program.
  The plain mathematics of package tally: what is written is read again, and in one way. No program.
  Contracts of the document's answers for tally: the bytes of a number, of a text.
-/
import Derived.Test.YtfkdkdkdpenblaaZB
import Derived.RegionCalls
import Derived.Deep.RegionWith
import Derived.Test.YtfkdkdkdpenblaaZA
import GoSem.Op.String
namespace Go.Proofs.Ytfkdkdkdpenblaa
open Go.RowKit
theorem Ty.below_by {w w' : World} {B : Nat} {r : Option Nat} (hg : w.grownBy w' r) (hB : B ≤ w.heap.size) (hr : ∀ k, r = some k → B ≤ k) : Below B w w' :=
  (Below.refl B w).grown hg hB hr
end Go.Proofs.Ytfkdkdkdpenblaa

namespace Go.Proofs.Ytfkdkdkdpenblaa
open Go.RowKit
theorem Ty.Buf.later {base : Nat} {w w' : World} {v : Value} {bs : List UInt8} (h : Ty.Buf base w v bs) (hb : Below w.heap.size w w') : Ty.Buf base w' v bs :=
  h.kept fun k hk => hb.block k (h.lt k hk).2
theorem Ty.Buf.str {base : Nat} {w : World} {v : Value} {bs : List UInt8} (h : Ty.Buf base w v bs) : (convert 73 9 v).run Try.prog w = .ok (.string (Ty.S bs)) w :=
  h.string 73 9 Try.underlying73 Try.underlying5 Try.underlying9
theorem Ty.below_none {w w' : World} {B : Nat} (hg : w.grownBy w' none) (hB : B ≤ w.heap.size) : Below B w w' := Ty.below_by hg hB (by intro k hk; cases hk)
theorem Ty.below_at {w w' : World} {B b : Nat} (hg : w.grownBy w' (some b)) (hB : B ≤ w.heap.size) (hb : B ≤ b) : Below B w w' := Ty.below_by hg hB (by intro k hk; cases hk; exact hb)
end Go.Proofs.Ytfkdkdkdpenblaa

namespace Go.Proofs.Ytfkdkdkdpenblaa.Ty
theorem lt_ofNat8 (a b : Nat) (ha : a < 256) (hb : b < 256) : (UInt8.ofNat a < UInt8.ofNat b) ↔ a < b := by
  rw [UInt8.lt_iff_toNat_lt, toNat_ofNat8 a ha, toNat_ofNat8 b hb]
theorem less_cons {a b : UInt8} {x y : List UInt8} (h : a < b) : Op.bytesLess (a :: x) (b :: y) = true := by simp [Op.bytesLess, h]
theorem less_same {a : UInt8} {x y : List UInt8} (h : Op.bytesLess x y = true) : Op.bytesLess (a :: x) (a :: y) = true := by simp [Op.bytesLess, h]
theorem less_irrefl : ∀ l : List UInt8, Op.bytesLess l l = false
  | [] => rfl
  | a :: l => by simp [Op.bytesLess, less_irrefl l]
theorem mod_split (n P : Nat) : n % (256 * P) = n / P % 256 * P + n % P := by
  rw [Nat.mul_comm 256 P, Nat.mod_mul, Nat.add_comm, Nat.mul_comm]
theorem low_less : ∀ (k a b : Nat), a % 256 ^ k < b % 256 ^ k → Op.bytesLess (low k a) (low k b) = true
  | 0, a, b, h => by simp [Nat.mod_one] at h
  | k + 1, a, b, h => by
    have hP : 0 < 256 ^ k := Nat.pow_pos (by omega)
    rw [Nat.pow_succ, Nat.mul_comm (256 ^ k) 256, mod_split a, mod_split b] at h
    have ra := Nat.mod_lt a hP
    have rb := Nat.mod_lt b hP
    have da := Nat.mod_lt (a / 256 ^ k) (by omega : 0 < 256)
    have db := Nat.mod_lt (b / 256 ^ k) (by omega : 0 < 256)
    rw [low_succ, low_succ]
    rcases Nat.lt_trichotomy (a / 256 ^ k % 256) (b / 256 ^ k % 256) with hl | he | hg
    · exact less_cons ((lt_ofNat8 _ _ da db).2 hl)
    · rw [he]
      rw [he] at h
      exact less_same (low_less k a b (by omega))
    · exfalso
      have := Nat.mul_le_mul_right (256 ^ k) (show b / 256 ^ k % 256 + 1 ≤ a / 256 ^ k % 256 by omega)
      rw [Nat.add_mul, Nat.one_mul] at this
      omega
theorem head_is (n : Nat) : (head n).toNat = 64 * form n + (if form n = 3 then 0 else n / 256 ^ after (form n)) ∧ (form n ≠ 3 → n / 256 ^ after (form n) < 64) := by
  rcases form_is n with ⟨h1, h⟩ | ⟨_, h1, h⟩ | ⟨_, h1, h⟩ | ⟨_, h⟩
  · have e : n / 256 ^ 0 = n := by simp
    refine ⟨?_, fun _ => by rw [h]; show n / 256 ^ 0 < 64; omega⟩
    unfold head
    rw [h, toNat_ofNat8 _ (by rw [if_neg (by omega)]; show 64 * 0 + n / 256 ^ 0 < 256; omega)]
  · have e : (256 : Nat) ^ 1 = 256 := by decide
    refine ⟨?_, fun _ => by rw [h]; show n / 256 ^ 1 < 64; omega⟩
    unfold head
    rw [h, toNat_ofNat8 _ (by rw [if_neg (by omega)]; show 64 * 1 + n / 256 ^ 1 < 256; omega)]
  · have e : (256 : Nat) ^ 3 = 16777216 := by decide
    refine ⟨?_, fun _ => by rw [h]; show n / 256 ^ 3 < 64; omega⟩
    unfold head
    rw [h, toNat_ofNat8 _ (by rw [if_neg (by omega)]; show 64 * 2 + n / 256 ^ 3 < 256; omega)]
  · refine ⟨?_, fun hh => absurd h hh⟩
    unfold head
    rw [h, toNat_ofNat8 _ (by rw [if_pos rfl]; omega)]
theorem encU_less (x y : Nat) (hx : U64 x) (hy : U64 y) (h : x < y) (hf : form x = form y) : Op.bytesLess (encU x) (encU y) = true := by
  have h1 := head_is x
  have h2 := head_is y
  unfold encU
  by_cases h3 : form x = 3
  · have e : head x = head y := UInt8.toNat_inj.1 (by rw [h1.1, h2.1, ← hf, h3]; rfl)
    rw [e, ← hf, h3]
    refine less_same (low_less 8 x y ?_)
    have e8 : (256 : Nat) ^ 8 = 18446744073709551616 := by decide
    unfold U64 at hx hy
    rw [Nat.mod_eq_of_lt (by omega), Nat.mod_eq_of_lt (by omega)]
    exact h
  · have hP : 0 < 256 ^ after (form x) := Nat.pow_pos (by omega)
    have a1 := h1.1
    have a2 := h2.1
    rw [if_neg h3] at a1
    rw [← hf, if_neg h3] at a2
    have hle : x / 256 ^ after (form x) ≤ y / 256 ^ after (form x) := Nat.div_le_div_right (by omega)
    rcases Nat.lt_or_eq_of_le hle with hl | he
    · exact less_cons (UInt8.lt_iff_toNat_lt.2 (by omega))
    · have e : head x = head y := UInt8.toNat_inj.1 (by omega)
      rw [e, ← hf]
      refine less_same (low_less _ x y ?_)
      have q1 := Nat.div_add_mod x (256 ^ after (form x))
      have q2 := Nat.div_add_mod y (256 ^ after (form x))
      rw [← he] at q2
      omega
theorem form_mono (x y : Nat) (h : x < y) : form x ≤ form y := by
  rcases form_is x with ⟨_, a⟩ | ⟨_, _, a⟩ | ⟨_, _, a⟩ | ⟨_, a⟩ <;> rcases form_is y with ⟨_, b⟩ | ⟨_, _, b⟩ | ⟨_, _, b⟩ | ⟨_, b⟩ <;> rw [a, b] <;> omega
theorem encU_order (x y : Nat) (hx : U64 x) (hy : U64 y) (h : x < y) : encU x ≠ encU y ∧ ((encU x).length < (encU y).length ∨ ((encU x).length = (encU y).length ∧ Op.bytesLess (encU x) (encU y) = true)) := by
  rcases Nat.lt_or_eq_of_le (form_mono x y h) with hl | he
  · have hlen : (encU x).length < (encU y).length := by
      rw [encU_length, encU_length]
      have := form_le y
      rcases (by omega : (form x = 0 ∧ form y = 1) ∨ (form x = 0 ∧ form y = 2) ∨ (form x = 0 ∧ form y = 3) ∨ (form x = 1 ∧ form y = 2) ∨ (form x = 1 ∧ form y = 3) ∨ (form x = 2 ∧ form y = 3)) with ⟨a, b⟩ | ⟨a, b⟩ | ⟨a, b⟩ | ⟨a, b⟩ | ⟨a, b⟩ | ⟨a, b⟩ <;> rw [a, b] <;> decide
    exact ⟨fun e => by rw [e] at hlen; omega, .inl hlen⟩
  · have hb := encU_less x y hx hy h he
    exact ⟨fun e => (by rw [e, less_irrefl] at hb; cases hb), .inr ⟨by rw [encU_length, encU_length, he], hb⟩⟩
theorem encU_inj (x y : Nat) (hx : U64 x) (hy : U64 y) (h : encU x = encU y) : x = y := by
  rcases Nat.lt_trichotomy x y with hl | he | hg
  · exact absurd h (encU_order x y hx hy hl).1
  · exact he
  · exact absurd h.symm (encU_order y x hy hx hg).1
end Go.Proofs.Ytfkdkdkdpenblaa.Ty

namespace Go.Proofs.Ytfkdkdkdpenblaa.Ty
theorem low_at : ∀ (a n j : Nat), j < a → (low a n).getD j 0 = UInt8.ofNat (n / 256 ^ (a - 1 - j) % 256)
  | 0, _, _, h => by omega
  | a + 1, n, 0, _ => by rw [low_succ]; simp
  | a + 1, n, j + 1, h => by
    rw [low_succ, List.getD_cons_succ, low_at a n j (by omega), show a + 1 - 1 - (j + 1) = a - 1 - j by omega]
theorem head_mod (n : Nat) (hn : U64 n) : (head n).toNat % 64 = n / 256 ^ after (form n) ∧ (head n).toNat / 64 = form n ∧ (head n).toNat ≤ 192 := by
  obtain ⟨h1, h2⟩ := head_is n
  have := form_le n
  by_cases h3 : form n = 3
  · have e8 : (256 : Nat) ^ 8 = 18446744073709551616 := by decide
    have ed : n / 256 ^ 8 = 0 := by unfold U64 at hn; omega
    rw [if_pos h3] at h1
    rw [h1, h3]
    refine ⟨?_, by omega, by omega⟩
    show 192 % 64 = n / 256 ^ 8
    omega
  · rw [if_neg h3] at h1
    have hq := h2 h3
    rw [h1]
    generalize n / 256 ^ after (form n) = q at hq ⊢
    exact ⟨by omega, by omega, by omega⟩
theorem at_zero (n : Nat) (r : List UInt8) : (encU n ++ r).getD 0 0 = head n := rfl
theorem at_succ (n : Nat) (r : List UInt8) (j : Nat) (h : j < after (form n)) : (encU n ++ r).getD (j + 1) 0 = UInt8.ofNat (n / 256 ^ (after (form n) - 1 - j) % 256) := by
  rw [encU_split, List.append_assoc, List.singleton_append, List.getD_cons_succ, ← low_at _ n j h]
  rw [List.getD, List.getD, List.getElem?_append_left (by rw [low_length]; exact h)]
theorem pv_encU (n : Nat) (hn : U64 n) (r : List UInt8) : ∀ j, j ≤ after (form n) → pv (encU n ++ r) (j + 1) = n / 256 ^ (after (form n) - j)
  | 0, _ => by
    show ((encU n ++ r).getD 0 0).toNat % 64 = _
    rw [at_zero, (head_mod n hn).1, Nat.sub_zero]
  | j + 1, h => by
    rw [pv_succ _ (j + 1) (by omega), pv_encU n hn r j (by omega), at_succ n r j (by omega), toNat_ofNat8 _ (Nat.mod_lt _ (by omega))]
    have e : after (form n) - j = after (form n) - 1 - j + 1 := by omega
    rw [e, Nat.pow_succ, ← Nat.div_div_eq_div_mul, show after (form n) - (j + 1) = after (form n) - 1 - j by omega]
    omega
theorem small_le (n : Nat) : small (form n) ≤ n := by
  rcases form_is n with ⟨_, h⟩ | ⟨_, _, h⟩ | ⟨_, _, h⟩ | ⟨_, h⟩ <;> rw [h] <;> simp only [small] <;> omega
/-- What was written is read again. -/
theorem num_encU (n : Nat) (hn : U64 n) (r : List UInt8) : num (encU n ++ r) = (n, (encU n).length, 0) := by
  obtain ⟨_, h2, h3⟩ := head_mod n hn
  have hp := pv_encU n hn r (after (form n)) (Nat.le_refl _)
  rw [Nat.sub_self, Nat.pow_zero, Nat.div_one] at hp
  have hl : (encU n ++ r).length = 1 + after (form n) + r.length := by rw [List.length_append, encU_length]
  have e : 1 + after (form n) = after (form n) + 1 := by omega
  rw [num_whole (f := form n) (by omega) (by rw [at_zero]; omega) (by rw [at_zero]; exact h2) (by omega) (by rw [e, hp]; have := small_le n; omega), e, hp, encU_length, e]
/-- A beginning of a number's bytes is none. -/
theorem num_prefix (n : Nat) (hn : U64 n) (k : Nat) (hk : k < (encU n).length) : num ((encU n).take k) = (0, 0, 2) := by
  cases k with
  | zero => rfl
  | succ k =>
    obtain ⟨_, h2, h3⟩ := head_mod n hn
    have hl : ((encU n).take (k + 1)).length = k + 1 := by rw [List.length_take]; omega
    have h0 : ((encU n).take (k + 1)).getD 0 0 = head n := rfl
    rw [encU_length] at hk
    exact num_cut (f := form n) (by omega) (by rw [h0]; omega) (by rw [h0]; exact h2) (by omega)
theorem pv_div (l : List UInt8) : ∀ (d j : Nat), pv l (j + d + 1) / 256 ^ d = pv l (j + 1)
  | 0, j => by simp
  | d + 1, j => by
    have ih := pv_div l d j
    have hb := (l.getD (j + d + 1) 0).toNat_lt
    rw [show j + (d + 1) + 1 = j + d + 1 + 1 by omega, pv_succ l (j + d + 1) (by omega), Nat.pow_succ, Nat.mul_comm (256 ^ d) 256, ← Nat.div_div_eq_div_mul, ← ih]
    congr 1
    omega
theorem pv_form (l : List UInt8) (f : Nat) (hf : f ≤ 3) (h3 : f = 3 → (l.getD 0 0).toNat % 64 = 0) (hs : small f ≤ pv l (1 + after f)) : form (pv l (1 + after f)) = f := by
  rcases (by omega : f = 0 ∨ f = 1 ∨ f = 2 ∨ f = 3) with rfl | rfl | rfl | rfl
  · have h1 := pv_lt l 0
    have hs' : 0 ≤ pv l (0 + 1) := by omega
    show form (pv l (0 + 1)) = 0
    unfold form; rw [if_pos (by omega)]
  · have h1 := pv_lt l 1
    have hs' : 64 ≤ pv l (1 + 1) := hs
    show form (pv l (1 + 1)) = 1
    unfold form; rw [if_neg (by omega), if_pos (by omega)]
  · have h1 := pv_lt l 3
    have hs' : 16384 ≤ pv l (3 + 1) := hs
    show form (pv l (3 + 1)) = 2
    unfold form; rw [if_neg (by omega), if_neg (by omega), if_pos (by omega)]
  · have hs' : 1073741824 ≤ pv l (8 + 1) := hs
    show form (pv l (8 + 1)) = 3
    unfold form; rw [if_neg (by omega), if_neg (by omega), if_neg (by omega)]
theorem low_pv (l : List UInt8) : ∀ (a m : Nat), m + a + 1 ≤ l.length → low a (pv l (m + a + 1)) = (l.drop (m + 1)).take a
  | 0, m, _ => by simp [low]
  | a + 1, m, h => by
    rw [low_succ, show m + (a + 1) + 1 = (m + 1) + a + 1 by omega, low_pv l a (m + 1) (by omega), pv_div l a (m + 1), pv_succ l (m + 1) (by omega)]
    have hb := (l.getD (m + 1) 0).toNat_lt
    have hl : m + 1 < l.length := by omega
    rw [List.drop_eq_getElem_cons hl, List.take_succ_cons]
    congr 1
    have e : l.getD (m + 1) 0 = l[m + 1] := by rw [List.getD, List.getElem?_eq_getElem hl]; rfl
    rw [e] at hb ⊢
    rw [show (pv l (m + 1) * 256 + l[m + 1].toNat) % 256 = l[m + 1].toNat by omega]
    simp
/-- What is read is just what is written. -/
theorem encU_num (l : List UInt8) (h : (num l).2.2 = 0) : encU (num l).1 = l.take (num l).2.1 ∧ (num l).2.1 ≤ l.length := by
  rcases num_cases l with ⟨_, hne, f, hf, h1, h2, h3, e, hl, hs⟩ | ⟨h', _⟩
  · rw [e]
    refine ⟨?_, hl⟩
    have h30 : f = 3 → (l.getD 0 0).toNat % 64 = 0 := by intro h; subst h; omega
    have hfm := pv_form l f hf h30 hs
    show encU (pv l (1 + after f)) = l.take (1 + after f)
    unfold encU
    rw [hfm]
    have hp := low_pv l (after f) 0 (by omega)
    rw [show 0 + after f + 1 = 1 + after f by omega, Nat.zero_add] at hp
    rw [hp]
    obtain ⟨b, r, rfl⟩ : ∃ b r, l = b :: r := by cases l with
      | nil => exact absurd rfl hne
      | cons b r => exact ⟨b, r, rfl⟩
    rw [show 1 + after f = after f + 1 by omega, List.take_succ_cons, List.drop_one, List.tail_cons]
    congr 1
    apply UInt8.toNat_inj.1
    rw [(head_is _).1, show after f + 1 = 1 + after f by omega, hfm]
    have hd := pv_div (b :: r) (after f) 0
    rw [show 0 + after f + 1 = 1 + after f by omega] at hd
    have hb1 : pv (b :: r) (0 + 1) = b.toNat % 64 := rfl
    simp only [List.getD_cons_zero] at h1 h2 h3
    split
    · rename_i h
      subst h
      omega
    · rw [hd, hb1]
      omega
  · omega
end Go.Proofs.Ytfkdkdkdpenblaa.Ty

namespace Go.Proofs.Ytfkdkdkdpenblaa
open Go.RowKit
/-- So far: k bytes of the number are still to be written, of size sz. -/
def Ty.RMid (base n sz k : Nat) (wr : World) (v : Value) : Prop :=
  (k = sz ∧ Ty.Buf base wr v []) ∨ (k < sz ∧ ∃ done, Ty.encU n = done ++ Ty.low k n ∧ done.length + k ≤ 9 ∧ Ty.Buf base wr v done)
theorem Ty.Buf.base {base : Nat} {w : World} {v : Value} {bs : List UInt8} (h : Ty.Buf base w v bs) : ∀ k, v.ownBlock = some k → base ≤ k := fun k hk => (h.lt k hk).1
/-- A string that was made anew. -/
def Ty.Str (w : World) (bs : List UInt8) (e : Ending) (w' : World) : Prop := e = .returned (.string (Ty.S bs)) ∧ Below w.heap.size w w'
theorem Ty.RMid.first {base n sz k : Nat} {w1 : World} {v1 : Value} (hk : k = Ty.after (Ty.form n)) (hs : sz = k + 1) {X : Int} (hX : X = ((Ty.head n).toNat : Int)) (h1 : ∀ u : UInt8, X = (u.toNat : Int) → Ty.Buf base w1 v1 ([] ++ [u])) : Ty.RMid base n sz k w1 v1 :=
  .inr ⟨by omega, [Ty.head n], by rw [hk]; exact Ty.encU_split n, by have := Ty.after_le n; simp; omega, h1 _ hX⟩
theorem Ty.RMid.next {base n sz k : Nat} {done : List UInt8} {w1 : World} {v1 : Value} (hd : Ty.encU n = done ++ Ty.low (k + 1) n) (hl : done.length + (k + 1) ≤ 9) (hk : k + 1 < sz)
    (h1 : ∀ u : UInt8, ((n : Int) / 2 ^ (8 * k) % 256) = (u.toNat : Int) → Ty.Buf base w1 v1 (done ++ [u])) : Ty.RMid base n sz k w1 v1 :=
  .inr ⟨by omega, done ++ [UInt8.ofNat (n / 256 ^ k % 256)], by rw [hd, Ty.low_succ]; simp, by simp; omega, h1 _ (Ty.low_byte n k)⟩
theorem Ty.rhead0 (n : Nat) (h : Ty.form n = 0) : (n : Int) % 256 = ((Ty.head n).toNat : Int) := by
  have := (Ty.head_is n).1
  have hb := Ty.form_is n
  rw [h] at this; simp [Ty.after] at this; omega
theorem Ty.rhead1 (n : Nat) (h : Ty.form n = 1) : ((n : Int) / 256 + 64) % 256 = ((Ty.head n).toNat : Int) := by
  have := (Ty.head_is n).1
  have hb := Ty.form_is n
  rw [h] at this; simp [Ty.after] at this; omega
theorem Ty.rhead2 (n : Nat) (h : Ty.form n = 2) : ((n : Int) / 16777216 + 128) % 256 = ((Ty.head n).toNat : Int) := by
  have := (Ty.head_is n).1
  have hb := Ty.form_is n
  rw [h] at this; simp [Ty.after] at this; omega
theorem Ty.rhead3 (n : Nat) (h : Ty.form n = 3) : (192 : Int) = ((Ty.head n).toNat : Int) := by
  have := (Ty.head_is n).1
  rw [h] at this; simp at this; omega
theorem Ty.fw_neg {n : Int} (h : Ty.I64 n) (h0 : n < 0) : IntKind.u64.wrap (IntKind.u64.wrap (2 * IntKind.u64.wrap (wrap64 (-wrap64 (n + 1)))) + 1) = Ty.zig n := by
  unfold Ty.I64 at h; unfold Ty.zig; simp only [IntKind.wrap_u64]; unfold wrap64; rw [if_neg (by omega)]; omega
theorem Ty.fw_pos {n : Int} (h : Ty.I64 n) (h0 : 0 ≤ n) : IntKind.u64.wrap (2 * IntKind.u64.wrap n) = Ty.zig n := by
  unfold Ty.I64 at h; unfold Ty.zig; simp only [IntKind.wrap_u64]; rw [if_pos (by omega)]; omega
end Go.Proofs.Ytfkdkdkdpenblaa
