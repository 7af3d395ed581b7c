/-
  The plain mathematics of package frame: frames, what is scanned of bytes; frames again, beginnings of frames, frames behind frames. No program.
-/
import Derived.Test.YtkbkhohknniibaaF1
namespace Go.Proofs.Ytkbkhohknniibaa.Fr
open Go
abbrev Str := List UInt8
/-- Four bytes of a number, the lowest first. -/
def four (n : Nat) : List UInt8 := [UInt8.ofNat (n % 256), UInt8.ofNat (n / 256 % 256), UInt8.ofNat (n / 65536 % 256), UInt8.ofNat (n / 16777216 % 256)]
theorem four_len (n : Nat) : (four n).length = 4 := rfl
theorem val_four (n : Nat) (h : n < 2 ^ 32) : val (four n) = n := by
  unfold four val val val val val
  simp only [UInt8.toNat_ofNat']
  omega
/-- A frame. -/
def frm (t : Str) : List UInt8 := four t.length ++ (t ++ four (sum t))
theorem frm_len (t : Str) : (frm t).length = t.length + 8 := by simp [frm, four_len]; omega
/-- Frames, with so much patience. -/
def scanF : Nat → List UInt8 → Nat × List Str × Nat
  | 0, _ => (0, [], 0)
  | f + 1, l =>
    if l.length < 4 then (0, [], 0)
    else if 1048576 < val (l.take 4) then (8, [], 0)
    else if l.length < val (l.take 4) + 8 then (0, [], 0)
    else if val ((l.drop (4 + val (l.take 4))).take 4) ≠ sum ((l.drop 4).take (val (l.take 4))) then (8, [], 0)
    else if (scanF f (l.drop (val (l.take 4) + 8))).1 ≠ 0 then (8, [], 0)
    else (0, (l.drop 4).take (val (l.take 4)) :: (scanF f (l.drop (val (l.take 4) + 8))).2.1, val (l.take 4) + 8 + (scanF f (l.drop (val (l.take 4) + 8))).2.2)
theorem scanF_any : ∀ (f g : Nat) (l : List UInt8), l.length < f → l.length < g → scanF f l = scanF g l
  | 0, _, l, h, _ => by omega
  | _ + 1, 0, l, _, h => by omega
  | f + 1, g + 1, l, h1, h2 => by
    simp only [scanF]
    by_cases a : l.length < 4
    · rw [if_pos a, if_pos a]
    · have e : scanF f (l.drop (val (l.take 4) + 8)) = scanF g (l.drop (val (l.take 4) + 8)) := scanF_any f g _ (by rw [List.length_drop]; omega) (by rw [List.length_drop]; omega)
      rw [e]
/-- What is scanned. -/
def scan (l : List UInt8) : Nat × List Str × Nat := scanF (l.length + 1) l
theorem scan_is (l : List UInt8) : scan l =
    if l.length < 4 then (0, [], 0)
    else if 1048576 < val (l.take 4) then (8, [], 0)
    else if l.length < val (l.take 4) + 8 then (0, [], 0)
    else if val ((l.drop (4 + val (l.take 4))).take 4) ≠ sum ((l.drop 4).take (val (l.take 4))) then (8, [], 0)
    else if (scan (l.drop (val (l.take 4) + 8))).1 ≠ 0 then (8, [], 0)
    else (0, (l.drop 4).take (val (l.take 4)) :: (scan (l.drop (val (l.take 4) + 8))).2.1, val (l.take 4) + 8 + (scan (l.drop (val (l.take 4) + 8))).2.2) := by
  by_cases a : l.length < 4
  · rw [if_pos a]
    show scanF (l.length + 1) l = _
    simp only [scanF]
    rw [if_pos a]
  · have e : scanF l.length (l.drop (val (l.take 4) + 8)) = scan (l.drop (val (l.take 4) + 8)) := scanF_any _ _ _ (by rw [List.length_drop]; omega) (by omega)
    rw [← e]
    rfl
/-- One frame more ahead. -/
def more (t : Str) (q : Nat × List Str × Nat) : Nat × List Str × Nat := if q.1 ≠ 0 then (8, [], 0) else (0, t :: q.2.1, t.length + 8 + q.2.2)
theorem scan_frm (t : Str) (h : t.length ≤ 1048576) (r : List UInt8) : scan (frm t ++ r) = more t (scan r) := by
  have e1 : (frm t ++ r).take 4 = four t.length := by
    unfold frm
    rw [List.append_assoc, List.take_append_of_le_length (by rw [four_len]; omega)]
    rfl
  have e2 : val ((frm t ++ r).take 4) = t.length := by rw [e1, val_four _ (by omega)]
  have e3 : (frm t ++ r).drop 4 = t ++ (four (sum t) ++ r) := by unfold frm; simp [four]
  have e4 : ((frm t ++ r).drop 4).take t.length = t := by rw [e3]; simp
  have e5 : ((frm t ++ r).drop (4 + t.length)).take 4 = four (sum t) := by
    rw [← List.drop_drop, e3]
    simp [four]
  have e6 : (frm t ++ r).drop (t.length + 8) = r := by
    rw [← frm_len]; simp
  have e7 : (frm t ++ r).length = t.length + 8 + r.length := by rw [List.length_append, frm_len]
  rw [scan_is, e2, e4, e5, e6, e7, if_neg (by omega), if_neg (by omega), if_neg (by omega), if_neg (by rw [val_four _ (sum_lt t)]; simp)]
  rfl
theorem scan_nil : scan [] = (0, [], 0) := by rw [scan_is]; simp
/-- How many bytes frames have. -/
def size (L : List Str) : Nat := (L.map fun t => t.length + 8).sum
theorem size_is (L : List Str) : (L.flatMap frm).length = size L := by
  induction L with
  | nil => rfl
  | cons t L ih =>
    rw [List.flatMap_cons, List.length_append, ih, frm_len]
    simp [size]
theorem scan_all (L : List Str) (h : ∀ t ∈ L, t.length ≤ 1048576) : scan (L.flatMap frm) = (0, L, size L) := by
  induction L with
  | nil => exact scan_nil
  | cons t L ih =>
    rw [List.flatMap_cons, scan_frm t (h t (by simp)), ih fun y hy => h y (by simp [hy])]
    simp [more, size]
/-- How many frames are whole in so many bytes. -/
def whole : List Str → Nat → Nat
  | [], _ => 0
  | t :: L, k => if t.length + 8 ≤ k then whole L (k - (t.length + 8)) + 1 else 0
theorem scan_torn : ∀ (L : List Str) (k : Nat), (∀ t ∈ L, t.length ≤ 1048576) → scan ((L.flatMap frm).take k) = (0, L.take (whole L k), size (L.take (whole L k)))
  | [], k, _ => by simp [whole, scan_nil, size]
  | t :: L, k, h => by
    have ht := h t (by simp)
    unfold whole
    by_cases hk : t.length + 8 ≤ k
    · rw [if_pos hk]
      have e : ((t :: L).flatMap frm).take k = frm t ++ (L.flatMap frm).take (k - (t.length + 8)) := by
        rw [List.flatMap_cons, List.take_append, frm_len, List.take_of_length_le (by rw [frm_len]; omega)]
      rw [e, scan_frm t ht, scan_torn L _ fun y hy => h y (by simp [hy])]
      simp [more, size]
    · rw [if_neg hk]
      have e : ((t :: L).flatMap frm).take k = (frm t).take k := by
        rw [List.flatMap_cons, List.take_append_of_le_length (by rw [frm_len]; omega)]
      have hl : ((frm t).take k).length = k := by rw [List.length_take, frm_len]; omega
      rw [e, scan_is, hl]
      by_cases h4 : k < 4
      · rw [if_pos h4]
        simp [size]
      · have e2 : ((frm t).take k).take 4 = four t.length := by
          rw [List.take_take, Nat.min_eq_left (by omega)]
          unfold frm
          rw [List.take_append_of_le_length (by rw [four_len]; omega)]
          rfl
        rw [if_neg h4, e2, val_four _ (by omega), if_neg (by omega), if_pos (by omega)]
        simp [size]
theorem scan_end : ∀ (n : Nat) (l : List UInt8), l.length ≤ n → (scan l).1 = 0 → (scan l).2.2 ≤ l.length
  | n, l, hn, h => by
    rw [scan_is] at h ⊢
    by_cases h1 : l.length < 4
    · rw [if_pos h1]; simp
    · rw [if_neg h1] at h ⊢
      by_cases h2 : 1048576 < val (l.take 4)
      · rw [if_pos h2] at h; cases h
      · rw [if_neg h2] at h ⊢
        by_cases h3 : l.length < val (l.take 4) + 8
        · rw [if_pos h3]; simp
        · rw [if_neg h3] at h ⊢
          by_cases h4 : val ((l.drop (4 + val (l.take 4))).take 4) ≠ sum ((l.drop 4).take (val (l.take 4)))
          · rw [if_pos h4] at h; cases h
          · rw [if_neg h4] at h ⊢
            by_cases h5 : (scan (l.drop (val (l.take 4) + 8))).1 ≠ 0
            · rw [if_pos h5] at h; cases h
            · rw [if_neg h5]
              have hl : (l.drop (val (l.take 4) + 8)).length = l.length - (val (l.take 4) + 8) := List.length_drop
              have := scan_end (n - 1) (l.drop (val (l.take 4) + 8)) (by omega) (by simpa using h5)
              show val (l.take 4) + 8 + (scan (l.drop (val (l.take 4) + 8))).2.2 ≤ l.length
              omega
termination_by n => n
/-- The error is 0 or 8. -/
theorem scan_err (l : List UInt8) : (scan l).1 = 0 ∨ scan l = (8, [], 0) := by
  rw [scan_is]
  repeat' split
  all_goals first | exact .inl rfl | exact .inr rfl
/-- What of a + b is scanned, of what of a and of b is. -/
def both (a : List UInt8) (p q : Nat × List Str × Nat) : Nat × List Str × Nat := if p.1 ≠ 0 then (8, [], 0) else if q.1 ≠ 0 then (8, [], 0) else (0, p.2.1 ++ q.2.1, a.length + q.2.2)
theorem scan_join : ∀ (n : Nat) (a b : List UInt8), a.length ≤ n → (scan a).1 ≠ 0 ∨ (scan a).2.2 = a.length → scan (a ++ b) = both a (scan a) (scan b)
  | n, a, b, hn, h => by
    by_cases h0 : a = []
    · subst h0
      rw [scan_nil]
      unfold both
      rw [if_neg (by simp)]
      rcases scan_err b with e | e
      · rw [if_neg (by rw [e]; simp)]
        simp only [List.nil_append, List.length_nil, Nat.zero_add]
        exact Prod.ext e rfl
      · rw [List.nil_append, e]
        rfl
    · have hpos : 0 < a.length := List.length_pos_iff.2 h0
      rw [scan_is a] at h
      rw [scan_is (a ++ b), scan_is a]
      by_cases h1 : a.length < 4
      · rw [if_pos h1] at h
        simp at h
        omega
      · have t1 : (a ++ b).take 4 = a.take 4 := List.take_append_of_le_length (by omega)
        have hlen : (a ++ b).length = a.length + b.length := List.length_append
        rw [if_neg h1] at h
        rw [t1, hlen, if_neg (show ¬ a.length + b.length < 4 by omega), if_neg h1]
        generalize val (a.take 4) = m at h ⊢
        by_cases h2 : 1048576 < m
        · rw [if_pos h2, if_pos h2]
          rfl
        · rw [if_neg h2] at h
          rw [if_neg h2, if_neg h2]
          by_cases h3 : a.length < m + 8
          · rw [if_pos h3] at h
            simp at h
            omega
          · have t2 : ((a ++ b).drop (4 + m)).take 4 = (a.drop (4 + m)).take 4 := by
              rw [List.drop_append_of_le_length (by omega), List.take_append_of_le_length (by rw [List.length_drop]; omega)]
            have t3 : ((a ++ b).drop 4).take m = (a.drop 4).take m := by
              rw [List.drop_append_of_le_length (by omega), List.take_append_of_le_length (by rw [List.length_drop]; omega)]
            have t4 : (a ++ b).drop (m + 8) = a.drop (m + 8) ++ b := List.drop_append_of_le_length (by omega)
            rw [if_neg h3] at h
            rw [t2, t3, t4, if_neg (show ¬ a.length + b.length < m + 8 by omega), if_neg h3]
            by_cases h4 : val ((a.drop (4 + m)).take 4) ≠ sum ((a.drop 4).take m)
            · rw [if_pos h4, if_pos h4]
              rfl
            · rw [if_neg h4] at h
              rw [if_neg h4, if_neg h4]
              have hl : (a.drop (m + 8)).length = a.length - (m + 8) := List.length_drop
              by_cases h5 : (scan (a.drop (m + 8))).1 ≠ 0
              · have ih := scan_join (n - 1) (a.drop (m + 8)) b (by omega) (.inl h5)
                rw [ih]
                unfold both
                rw [if_pos h5, if_pos (by simp), if_pos (by rw [if_pos h5]; simp)]
              · rw [if_neg h5] at h
                have h6 : (scan (a.drop (m + 8))).2.2 = (a.drop (m + 8)).length := by
                  rcases h with h | h
                  · exact absurd rfl h
                  · have h7 : m + 8 + (scan (a.drop (m + 8))).2.2 = a.length := h
                    omega
                have ih := scan_join (n - 1) (a.drop (m + 8)) b (by omega) (.inr h6)
                rw [ih]
                unfold both
                rw [if_neg h5]
                by_cases h8 : (scan b).1 ≠ 0
                · rw [if_pos h8]
                  simp [h5, h8]
                · rw [if_neg h8]
                  simp only [h5, h8]
                  simp
                  omega
termination_by n => n
end Go.Proofs.Ytkbkhohknniibaa.Fr
