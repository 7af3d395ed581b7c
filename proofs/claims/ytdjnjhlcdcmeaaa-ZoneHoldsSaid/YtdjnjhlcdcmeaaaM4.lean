/-
  The plain mathematics of package tally: what is written is read again, and in one way. No program.
-/
import Derived.Test.YtdjnjhlcdcmeaaaM2
import Derived.Test.YtdjnjhlcdcmeaaaM3
namespace Go.Proofs.Ytdjnjhlcdcmeaaa.Ty
theorem low_at : ∀ (a n j : Nat), j < a → (low a n).getD j 0 = UInt8.ofNat (n / 256 ^ (a - 1 - j) % 256)
  | 0, _, _, h => by omega
  | a + 1, n, 0, _ => by rw [low_succ]; simp
  | a + 1, n, j + 1, h => by
    rw [low_succ, List.getD_cons_succ, low_at a n j (by omega), show a + 1 - 1 - (j + 1) = a - 1 - j by omega]
theorem head_mod (n : Nat) (hn : U64 n) : (head n).toNat % 64 = n / 256 ^ after (form n) ∧ (head n).toNat / 64 = form n ∧ (head n).toNat ≤ 192 := by
  obtain ⟨h1, h2⟩ := head_is n
  have := form_le n
  by_cases h3 : form n = 3
  · have e8 : (256 : Nat) ^ 8 = 18446744073709551616 := by decide
    have ed : n / 256 ^ 8 = 0 := by unfold U64 at hn; omega
    rw [if_pos h3] at h1
    rw [h1, h3]
    refine ⟨?_, by omega, by omega⟩
    show 192 % 64 = n / 256 ^ 8
    omega
  · rw [if_neg h3] at h1
    have hq := h2 h3
    rw [h1]
    generalize n / 256 ^ after (form n) = q at hq ⊢
    exact ⟨by omega, by omega, by omega⟩
theorem at_zero (n : Nat) (r : List UInt8) : (encU n ++ r).getD 0 0 = head n := rfl
theorem at_succ (n : Nat) (r : List UInt8) (j : Nat) (h : j < after (form n)) : (encU n ++ r).getD (j + 1) 0 = UInt8.ofNat (n / 256 ^ (after (form n) - 1 - j) % 256) := by
  rw [encU_split, List.append_assoc, List.singleton_append, List.getD_cons_succ, ← low_at _ n j h]
  rw [List.getD, List.getD, List.getElem?_append_left (by rw [low_length]; exact h)]
theorem pv_encU (n : Nat) (hn : U64 n) (r : List UInt8) : ∀ j, j ≤ after (form n) → pv (encU n ++ r) (j + 1) = n / 256 ^ (after (form n) - j)
  | 0, _ => by
    show ((encU n ++ r).getD 0 0).toNat % 64 = _
    rw [at_zero, (head_mod n hn).1, Nat.sub_zero]
  | j + 1, h => by
    rw [pv_succ _ (j + 1) (by omega), pv_encU n hn r j (by omega), at_succ n r j (by omega), toNat_ofNat8 _ (Nat.mod_lt _ (by omega))]
    have e : after (form n) - j = after (form n) - 1 - j + 1 := by omega
    rw [e, Nat.pow_succ, ← Nat.div_div_eq_div_mul, show after (form n) - (j + 1) = after (form n) - 1 - j by omega]
    omega
theorem small_le (n : Nat) : small (form n) ≤ n := by
  rcases form_is n with ⟨_, h⟩ | ⟨_, _, h⟩ | ⟨_, _, h⟩ | ⟨_, h⟩ <;> rw [h] <;> simp only [small] <;> omega
/-- What was written is read again. -/
theorem num_encU (n : Nat) (hn : U64 n) (r : List UInt8) : num (encU n ++ r) = (n, (encU n).length, 0) := by
  obtain ⟨_, h2, h3⟩ := head_mod n hn
  have hp := pv_encU n hn r (after (form n)) (Nat.le_refl _)
  rw [Nat.sub_self, Nat.pow_zero, Nat.div_one] at hp
  have hl : (encU n ++ r).length = 1 + after (form n) + r.length := by rw [List.length_append, encU_length]
  have e : 1 + after (form n) = after (form n) + 1 := by omega
  rw [num_whole (f := form n) (by omega) (by rw [at_zero]; omega) (by rw [at_zero]; exact h2) (by omega) (by rw [e, hp]; have := small_le n; omega), e, hp, encU_length, e]
/-- A beginning of a number's bytes is none. -/
theorem num_prefix (n : Nat) (hn : U64 n) (k : Nat) (hk : k < (encU n).length) : num ((encU n).take k) = (0, 0, 2) := by
  cases k with
  | zero => rfl
  | succ k =>
    obtain ⟨_, h2, h3⟩ := head_mod n hn
    have hl : ((encU n).take (k + 1)).length = k + 1 := by rw [List.length_take]; omega
    have h0 : ((encU n).take (k + 1)).getD 0 0 = head n := rfl
    rw [encU_length] at hk
    exact num_cut (f := form n) (by omega) (by rw [h0]; omega) (by rw [h0]; exact h2) (by omega)
theorem pv_div (l : List UInt8) : ∀ (d j : Nat), pv l (j + d + 1) / 256 ^ d = pv l (j + 1)
  | 0, j => by simp
  | d + 1, j => by
    have ih := pv_div l d j
    have hb := (l.getD (j + d + 1) 0).toNat_lt
    rw [show j + (d + 1) + 1 = j + d + 1 + 1 by omega, pv_succ l (j + d + 1) (by omega), Nat.pow_succ, Nat.mul_comm (256 ^ d) 256, ← Nat.div_div_eq_div_mul, ← ih]
    congr 1
    omega
theorem pv_form (l : List UInt8) (f : Nat) (hf : f ≤ 3) (h3 : f = 3 → (l.getD 0 0).toNat % 64 = 0) (hs : small f ≤ pv l (1 + after f)) : form (pv l (1 + after f)) = f := by
  rcases (by omega : f = 0 ∨ f = 1 ∨ f = 2 ∨ f = 3) with rfl | rfl | rfl | rfl
  · have h1 := pv_lt l 0
    have hs' : 0 ≤ pv l (0 + 1) := by omega
    show form (pv l (0 + 1)) = 0
    unfold form; rw [if_pos (by omega)]
  · have h1 := pv_lt l 1
    have hs' : 64 ≤ pv l (1 + 1) := hs
    show form (pv l (1 + 1)) = 1
    unfold form; rw [if_neg (by omega), if_pos (by omega)]
  · have h1 := pv_lt l 3
    have hs' : 16384 ≤ pv l (3 + 1) := hs
    show form (pv l (3 + 1)) = 2
    unfold form; rw [if_neg (by omega), if_neg (by omega), if_pos (by omega)]
  · have hs' : 1073741824 ≤ pv l (8 + 1) := hs
    show form (pv l (8 + 1)) = 3
    unfold form; rw [if_neg (by omega), if_neg (by omega), if_neg (by omega)]
theorem low_pv (l : List UInt8) : ∀ (a m : Nat), m + a + 1 ≤ l.length → low a (pv l (m + a + 1)) = (l.drop (m + 1)).take a
  | 0, m, _ => by simp [low]
  | a + 1, m, h => by
    rw [low_succ, show m + (a + 1) + 1 = (m + 1) + a + 1 by omega, low_pv l a (m + 1) (by omega), pv_div l a (m + 1), pv_succ l (m + 1) (by omega)]
    have hb := (l.getD (m + 1) 0).toNat_lt
    have hl : m + 1 < l.length := by omega
    rw [List.drop_eq_getElem_cons hl, List.take_succ_cons]
    congr 1
    have e : l.getD (m + 1) 0 = l[m + 1] := by rw [List.getD, List.getElem?_eq_getElem hl]; rfl
    rw [e] at hb ⊢
    rw [show (pv l (m + 1) * 256 + l[m + 1].toNat) % 256 = l[m + 1].toNat by omega]
    simp
/-- What is read is just what is written. -/
theorem encU_num (l : List UInt8) (h : (num l).2.2 = 0) : encU (num l).1 = l.take (num l).2.1 ∧ (num l).2.1 ≤ l.length := by
  rcases num_cases l with ⟨_, hne, f, hf, h1, h2, h3, e, hl, hs⟩ | ⟨h', _⟩
  · rw [e]
    refine ⟨?_, hl⟩
    have h30 : f = 3 → (l.getD 0 0).toNat % 64 = 0 := by intro h; subst h; omega
    have hfm := pv_form l f hf h30 hs
    show encU (pv l (1 + after f)) = l.take (1 + after f)
    unfold encU
    rw [hfm]
    have hp := low_pv l (after f) 0 (by omega)
    rw [show 0 + after f + 1 = 1 + after f by omega, Nat.zero_add] at hp
    rw [hp]
    obtain ⟨b, r, rfl⟩ : ∃ b r, l = b :: r := by cases l with
      | nil => exact absurd rfl hne
      | cons b r => exact ⟨b, r, rfl⟩
    rw [show 1 + after f = after f + 1 by omega, List.take_succ_cons, List.drop_one, List.tail_cons]
    congr 1
    apply UInt8.toNat_inj.1
    rw [(head_is _).1, show after f + 1 = 1 + after f by omega, hfm]
    have hd := pv_div (b :: r) (after f) 0
    rw [show 0 + after f + 1 = 1 + after f by omega] at hd
    have hb1 : pv (b :: r) (0 + 1) = b.toNat % 64 := rfl
    simp only [List.getD_cons_zero] at h1 h2 h3
    split
    · rename_i h
      subst h
      omega
    · rw [hd, hb1]
      omega
  · omega
end Go.Proofs.Ytdjnjhlcdcmeaaa.Ty
