import Derived.Test.YtodeodndjkkkbaaTAB
import GoSem.Op.String
import Derived.Laws.MathBits
import Derived.Laws.BitsLemmas
namespace Go.Proofs.Ytodeodndjkkkbaa.Ty
theorem head_is (n : Nat) : (head n).toNat = 64 * form n + (if form n = 3 then 0 else n / 256 ^ after (form n)) ∧ (form n ≠ 3 → n / 256 ^ after (form n) < 64) := by
 rcases form_is n with ⟨h1, h⟩ | ⟨_, h1, h⟩ | ⟨_, h1, h⟩ | ⟨_, h⟩
 ·have e : n / 256 ^ 0 = n := by simp
  refine ⟨?_, fun _ => by rw [h]; show n / 256 ^ 0 < 64; omega⟩
  unfold head
  rw [h, toNat_ofNat8 _ (by rw [if_neg (by omega)]; show 64 * 0 + n / 256 ^ 0 < 256; omega)]
 ·have e : (256 : Nat) ^ 1 = 256 := by decide
  refine ⟨?_, fun _ => by rw [h]; show n / 256 ^ 1 < 64; omega⟩
  unfold head
  rw [h, toNat_ofNat8 _ (by rw [if_neg (by omega)]; show 64 * 1 + n / 256 ^ 1 < 256; omega)]
 ·have e : (256 : Nat) ^ 3 = 16777216 := by decide
  refine ⟨?_, fun _ => by rw [h]; show n / 256 ^ 3 < 64; omega⟩
  unfold head
  rw [h, toNat_ofNat8 _ (by rw [if_neg (by omega)]; show 64 * 2 + n / 256 ^ 3 < 256; omega)]
 ·refine ⟨?_, fun hh => absurd h hh⟩
  unfold head
  rw [h, toNat_ofNat8 _ (by rw [if_pos rfl]; omega)]
end Go.Proofs.Ytodeodndjkkkbaa.Ty
namespace Go.Proofs.Ytodeodndjkkkbaa.Ty
theorem low_at : ∀ (a n j : Nat), j < a → (low a n).getD j 0 = UInt8.ofNat (n / 256 ^ (a - 1 - j) % 256)
 | 0, _, _, h => by omega
 | a + 1, n, 0, _ => by rw [low_succ]; simp
 | a + 1, n, j + 1, h => by
   rw [low_succ, List.getD_cons_succ, low_at a n j (by omega), show a + 1 - 1 - (j + 1) = a - 1 - j by omega]
theorem head_mod (n : Nat) (hn : U64 n) : (head n).toNat % 64 = n / 256 ^ after (form n) ∧ (head n).toNat / 64 = form n ∧ (head n).toNat ≤ 192 := by
 obtain ⟨h1, h2⟩ := head_is n
 have := form_le n
 by_cases h3 : form n = 3
 ·have e8 : (256 : Nat) ^ 8 = 18446744073709551616 := by decide
  have ed : n / 256 ^ 8 = 0 := by unfold U64 at hn; omega
  rw [if_pos h3] at h1
  rw [h1, h3]
  refine ⟨?_, by omega, by omega⟩
  show 192 % 64 = n / 256 ^ 8
  omega
 ·rw [if_neg h3] at h1
  have hq := h2 h3
  rw [h1]
  generalize n / 256 ^ after (form n) = q at hq ⊢
  exact ⟨by omega, by omega, by omega⟩
theorem at_zero (n : Nat) (r : List UInt8) : (encU n ++ r).getD 0 0 = head n := rfl
theorem at_succ (n : Nat) (r : List UInt8) (j : Nat) (h : j < after (form n)) : (encU n ++ r).getD (j + 1) 0 = UInt8.ofNat (n / 256 ^ (after (form n) - 1 - j) % 256) := by
 rw [encU_split, List.append_assoc, List.singleton_append, List.getD_cons_succ, ← low_at _ n j h]
 rw [List.getD, List.getD, List.getElem?_append_left (by rw [low_length]; exact h)]
theorem pv_encU (n : Nat) (hn : U64 n) (r : List UInt8) : ∀ j, j ≤ after (form n) → pv (encU n ++ r) (j + 1) = n / 256 ^ (after (form n) - j)
 | 0, _ => by
   show ((encU n ++ r).getD 0 0).toNat % 64 = _
   rw [at_zero, (head_mod n hn).1, Nat.sub_zero]
 | j + 1, h => by
   rw [pv_succ _ (j + 1) (by omega), pv_encU n hn r j (by omega), at_succ n r j (by omega), toNat_ofNat8 _ (Nat.mod_lt _ (by omega))]
   have e : after (form n) - j = after (form n) - 1 - j + 1 := by omega
   rw [e, Nat.pow_succ, ← Nat.div_div_eq_div_mul, show after (form n) - (j + 1) = after (form n) - 1 - j by omega]
   omega
theorem small_le (n : Nat) : small (form n) ≤ n := by
 rcases form_is n with ⟨_, h⟩ | ⟨_, _, h⟩ | ⟨_, _, h⟩ | ⟨_, h⟩ <;> rw [h] <;> simp only [small] <;> omega
theorem num_encU (n : Nat) (hn : U64 n) (r : List UInt8) : num (encU n ++ r) = (n, (encU n).length, 0) := by
 obtain ⟨_, h2, h3⟩ := head_mod n hn
 have hp := pv_encU n hn r (after (form n)) (Nat.le_refl _)
 rw [Nat.sub_self, Nat.pow_zero, Nat.div_one] at hp
 have hl : (encU n ++ r).length = 1 + after (form n) + r.length := by rw [List.length_append, encU_length]
 have e : 1 + after (form n) = after (form n) + 1 := by omega
 rw [num_whole (f := form n) (by omega) (by rw [at_zero]; omega) (by rw [at_zero]; exact h2) (by omega) (by rw [e, hp]; have := small_le n; omega), e, hp, encU_length, e]
theorem pv_div (l : List UInt8) : ∀ (d j : Nat), pv l (j + d + 1) / 256 ^ d = pv l (j + 1)
 | 0, j => by simp
 | d + 1, j => by
   have ih := pv_div l d j
   have hb := (l.getD (j + d + 1) 0).toNat_lt
   rw [show j + (d + 1) + 1 = j + d + 1 + 1 by omega, pv_succ l (j + d + 1) (by omega), Nat.pow_succ, Nat.mul_comm (256 ^ d) 256, ← Nat.div_div_eq_div_mul, ← ih]
   congr 1
   omega
theorem pv_form (l : List UInt8) (f : Nat) (hf : f ≤ 3) (h3 : f = 3 → (l.getD 0 0).toNat % 64 = 0) (hs : small f ≤ pv l (1 + after f)) : form (pv l (1 + after f)) = f := by
 rcases (by omega : f = 0 ∨ f = 1 ∨ f = 2 ∨ f = 3) with rfl | rfl | rfl | rfl
 ·have h1 := pv_lt l 0
  have hs' : 0 ≤ pv l (0 + 1) := by omega
  show form (pv l (0 + 1)) = 0
  unfold form; rw [if_pos (by omega)]
 ·have h1 := pv_lt l 1
  have hs' : 64 ≤ pv l (1 + 1) := hs
  show form (pv l (1 + 1)) = 1
  unfold form; rw [if_neg (by omega), if_pos (by omega)]
 ·have h1 := pv_lt l 3
  have hs' : 16384 ≤ pv l (3 + 1) := hs
  show form (pv l (3 + 1)) = 2
  unfold form; rw [if_neg (by omega), if_neg (by omega), if_pos (by omega)]
 ·have hs' : 1073741824 ≤ pv l (8 + 1) := hs
  show form (pv l (8 + 1)) = 3
  unfold form; rw [if_neg (by omega), if_neg (by omega), if_neg (by omega)]
theorem low_pv (l : List UInt8) : ∀ (a m : Nat), m + a + 1 ≤ l.length → low a (pv l (m + a + 1)) = (l.drop (m + 1)).take a
 | 0, m, _ => by simp [low]
 | a + 1, m, h => by
   rw [low_succ, show m + (a + 1) + 1 = (m + 1) + a + 1 by omega, low_pv l a (m + 1) (by omega), pv_div l a (m + 1), pv_succ l (m + 1) (by omega)]
   have hb := (l.getD (m + 1) 0).toNat_lt
   have hl : m + 1 < l.length := by omega
   rw [List.drop_eq_getElem_cons hl, List.take_succ_cons]
   congr 1
   have e : l.getD (m + 1) 0 = l[m + 1] := by rw [List.getD, List.getElem?_eq_getElem hl]; rfl
   rw [e] at hb ⊢
   rw [show (pv l (m + 1) * 256 + l[m + 1].toNat) % 256 = l[m + 1].toNat by omega]
   simp
theorem encU_num (l : List UInt8) (h : (num l).2.2 = 0) : encU (num l).1 = l.take (num l).2.1 ∧ (num l).2.1 ≤ l.length := by
 rcases num_cases l with ⟨_, hne, f, hf, h1, h2, h3, e, hl, hs⟩ | ⟨h', _⟩
 ·rw [e]
  refine ⟨?_, hl⟩
  have h30 : f = 3 → (l.getD 0 0).toNat % 64 = 0 := by intro h; subst h; omega
  have hfm := pv_form l f hf h30 hs
  show encU (pv l (1 + after f)) = l.take (1 + after f)
  unfold encU
  rw [hfm]
  have hp := low_pv l (after f) 0 (by omega)
  rw [show 0 + after f + 1 = 1 + after f by omega, Nat.zero_add] at hp
  rw [hp]
  obtain ⟨b, r, rfl⟩ : ∃ b r, l = b :: r := by cases l with
   | nil => exact absurd rfl hne
   | cons b r => exact ⟨b, r, rfl⟩
  rw [show 1 + after f = after f + 1 by omega, List.take_succ_cons, List.drop_one, List.tail_cons]
  congr 1
  apply UInt8.toNat_inj.1
  rw [(head_is _).1, show after f + 1 = 1 + after f by omega, hfm]
  have hd := pv_div (b :: r) (after f) 0
  rw [show 0 + after f + 1 = 1 + after f by omega] at hd
  have hb1 : pv (b :: r) (0 + 1) = b.toNat % 64 := rfl
  simp only [List.getD_cons_zero] at h1 h2 h3
  split
  ·rename_i h
   subst h
   omega
  ·rw [hd, hb1]
   omega
 ·omega
end Go.Proofs.Ytodeodndjkkkbaa.Ty
namespace Go.Proofs.Ytodeodndjkkkbaa.Bt
open Go
def num : Nat → (Nat → Bool) → Nat
 | 0, _ => 0
 | w + 1, g => num w g + (g w).toNat * 2 ^ w
theorem num_lt (w : Nat) (g : Nat → Bool) : num w g < 2 ^ w := by
 induction w with
 | zero => simp [num]
 | succ w ih =>
   have : (g w).toNat * 2 ^ w ≤ 2 ^ w := by cases g w <;> simp
   rw [Nat.pow_succ]
   unfold num
   omega
theorem testBit_num (w : Nat) (g : Nat → Bool) (j : Nat) : (num w g).testBit j = (decide (j < w) && g j) := by
 induction w with
 | zero => simp [num]
 | succ w ih =>
   have e : num (w + 1) g = 2 ^ w * (g w).toNat + num w g := by
    show num w g + (g w).toNat * 2 ^ w = _
    rw [Nat.mul_comm, Nat.add_comm]
   rw [e, Nat.testBit_two_pow_mul_add _ (num_lt w g), ih]
   by_cases h : j < w
   ·simp [h, Nat.lt_succ_of_lt h]
   ·rw [if_neg h]
    by_cases h2 : j = w
    ·subst h2
     cases g j <;> simp
    ·have h3 : ¬ j < w + 1 := by omega
     have h4 : (g w).toNat < 2 ^ (j - w) := Nat.lt_of_le_of_lt (Bool.toNat_le _) (Nat.one_lt_two_pow (by omega))
     rw [Nat.testBit_lt_two_pow h4]
     simp [h3]
theorem num_is {w n : Nat} {g : Nat → Bool} (hn : n < 2 ^ w) (h : ∀ j, j < w → n.testBit j = g j) : num w g = n := by
 refine Nat.eq_of_testBit_eq fun j => ?_
 rw [testBit_num]
 by_cases hj : j < w
 ·rw [h j hj]; simp [hj]
 ·rw [Nat.testBit_lt_two_pow (Nat.lt_of_lt_of_le hn (Nat.pow_le_pow_right (by decide) (by omega)))]
  simp [hj]
theorem num_congr {w : Nat} {g h : Nat → Bool} (e : ∀ j, j < w → g j = h j) : num w g = num w h := by
 refine num_is (num_lt w h) fun j hj => ?_
 rw [testBit_num, e j hj]
 simp [hj]
theorem num_add {w : Nat} {g : Nat → Bool} {j : Nat} (hj : j < w) (hg : g j = false) : num w g + 2 ^ j = num w (fun i => g i || decide (i = j)) := by
 induction w with
 | zero => omega
 | succ w ih =>
   unfold num
   by_cases e : j = w
   ·subst e
    have : num j g = num j (fun i => g i || decide (i = j)) := num_congr fun i hi => by
     have : i ≠ j := by omega
     simp [this]
    rw [← this, hg]
    simp
   ·rw [← ih (by omega)]
    have : ¬ w = j := by omega
    simp [this]
    omega
def oct (F : Nat → Bool) (i : Nat) : Nat := num 8 (fun j => F (8 * i + j))
theorem oct_lt (F : Nat → Bool) (i : Nat) : oct F i < 256 := num_lt 8 _
theorem oct_congr {F G : Nat → Bool} {i : Nat} (e : ∀ j, j < 8 → F (8 * i + j) = G (8 * i + j)) : oct F i = oct G i := num_congr e
theorem or_oct (g : Nat → Bool) (n k : Nat) : (num 8 g ||| (n * 2 ^ k % 256)) = num 8 (fun j => g j || (decide (k ≤ j) && n.testBit (j - k))) := by
 refine (num_is (Nat.or_lt_two_pow (n := 8) (num_lt 8 _) (Nat.mod_lt _ (by decide))) fun j hj => ?_).symm
 rw [Nat.testBit_or, testBit_num, Nat.testBit_mod_two_pow, Nat.testBit_mul_two_pow]
 simp [hj]
def laid (F : Nat → Bool) (at_ n : Nat) (x : Nat) : Bool := F x || (decide (x / 8 = at_ / 8) && (decide (at_ ≤ x) && n.testBit (x - at_)))
theorem laid_here (F : Nat → Bool) (at_ n : Nat) : (oct F (at_ / 8) ||| (n * 2 ^ (at_ % 8) % 256)) = oct (laid F at_ n) (at_ / 8) := by
 unfold oct
 rw [or_oct]
 refine num_congr fun j hj => ?_
 unfold laid
 have e1 : (8 * (at_ / 8) + j) / 8 = at_ / 8 := by omega
 have e2 : decide (at_ ≤ 8 * (at_ / 8) + j) = decide (at_ % 8 ≤ j) := by
  rw [decide_eq_decide]; omega
 have e3 : 8 * (at_ / 8) + j - at_ = j - at_ % 8 := by omega
 rw [e1, e2, e3]
 simp
theorem laid_far (F : Nat → Bool) (at_ n i : Nat) (h : i ≠ at_ / 8) : oct F i = oct (laid F at_ n) i := by
 refine oct_congr fun j hj => ?_
 unfold laid
 have e1 : ¬ (8 * i + j) / 8 = at_ / 8 := by omega
 simp [e1]
def putF (F : Nat → Bool) (at_ n : Nat) (x : Nat) : Bool := F x || (decide (at_ ≤ x) && n.testBit (x - at_))
def bit (s : ByteArray) (k : Nat) : Bool := (s.data.toList.getD (k / 8) 0).toNat.testBit (k % 8)
theorem length_data (s : ByteArray) : s.data.toList.length = s.size := by rw [Array.length_toList]; rfl
theorem at_getD (s : ByteArray) (k : Nat) (h : k < s.size) : s[k] = s.data.toList.getD k 0 := by
 have h2 : k < s.data.toList.length := by rw [length_data]; exact h
 rw [List.getD, List.getElem?_eq_getElem h2]; rfl
def bytes (sz : Nat) (F : Nat → Bool) : ByteArray := ⟨((List.range sz).map fun i => UInt8.ofNat (oct F i)).toArray⟩
theorem bytes_congr {sz : Nat} {F G : Nat → Bool} (e : ∀ x, x < 8 * sz → F x = G x) : bytes sz F = bytes sz G := by
 unfold bytes
 congr 2
 refine List.map_congr_left fun i hi => ?_
 rw [List.mem_range] at hi
 rw [oct_congr fun j hj => e _ (by omega)]
theorem bytes_bit (s : ByteArray) : bytes s.size (bit s) = s := by
 unfold bytes
 have e : ((List.range s.size).map fun i => UInt8.ofNat (oct (bit s) i)) = s.data.toList := by
  refine List.ext_getElem (by rw [length_data]; simp) fun i h1 h2 => ?_
  have h3 : i < s.size := by simpa using h1
  rw [List.getElem_map, List.getElem_range]
  have e2 : oct (bit s) i = (s.data.toList[i]).toNat := by
   refine num_is (s.data.toList[i]).toNat_lt fun j hj => ?_
   have e3 : (8 * i + j) / 8 = i := by omega
   have e4 : (8 * i + j) % 8 = j := by omega
   unfold bit
   rw [e3, e4, List.getD, List.getElem?_eq_getElem h2]
   rfl
  rw [e2]
  simp
 rw [e]
theorem bytes_of {s : ByteArray} {sz : Nat} {F : Nat → Bool} (hs : s.size = sz) (e : ∀ x, x < 8 * sz → F x = bit s x) : bytes sz F = s := by
 subst hs
 rw [bytes_congr e, bytes_bit]
def need (n : Nat) : Nat := (n + 7) / 8
def dirty (s : ByteArray) (n : Nat) : Bool := (List.range (8 * need n)).any fun k => decide (n ≤ k) && bit s k
theorem dirty_iff (s : ByteArray) (n : Nat) : dirty s n = true ↔ ∃ k, k < 8 * need n ∧ n ≤ k ∧ bit s k = true := by
 unfold dirty
 rw [List.any_eq_true]
 constructor
 ·rintro ⟨k, h1, h2⟩
  rw [List.mem_range] at h1
  simp at h2
  exact ⟨k, h1, h2.1, h2.2⟩
 ·rintro ⟨k, h1, h2, h3⟩
  exact ⟨k, List.mem_range.2 h1, by simp [h2, h3]⟩
theorem clean {s : ByteArray} {n k : Nat} (h : dirty s n = false) (h1 : k < 8 * need n) (h2 : n ≤ k) : bit s k = false := by
 rw [Bool.eq_false_iff]
 intro e
 rw [(dirty_iff s n).2 ⟨k, h1, h2, e⟩] at h
 cases h
def chk (s : ByteArray) (n : Nat) : Nat := if s.size < need n then 2 else if need n < s.size then 3 else if dirty s n = true then 5 else 0
theorem chk_ok {s : ByteArray} {n : Nat} (h : chk s n = 0) : s.size = need n ∧ dirty s n = false := by
 unfold chk at h
 split at h
 ·cases h
 ·split at h
  ·cases h
  ·split at h
   ·cases h
   ·rename_i h1 h2 h3
    exact ⟨by omega, by simpa using h3⟩
def Got (s : ByteArray) (at_ d n : Nat) : Prop := n < 2 ^ 64 ∧ ∀ j, n.testBit j = (decide (j < d) && (decide (j < 64) && bit s (at_ + j)))
theorem Got.zero (s : ByteArray) (at_ : Nat) : Got s at_ 0 0 := ⟨by decide, fun j => by simp⟩
theorem Got.next {s : ByteArray} {at_ d n : Nat} (h : Got s at_ d n) (hi : (at_ + d) / 8 < s.size) : Got s at_ (d + (8 - (at_ + d) % 8)) (n ||| (s[(at_ + d) / 8].toNat / 2 ^ ((at_ + d) % 8) * 2 ^ d % 2 ^ 64)) := by
 refine ⟨Nat.or_lt_two_pow h.1 (Nat.mod_lt _ (Nat.two_pow_pos _)), fun j => ?_⟩
 have hb := s[(at_ + d) / 8].toNat_lt
 rw [Nat.testBit_or, h.2 j, Nat.testBit_mod_two_pow, Nat.testBit_mul_two_pow, Nat.testBit_div_two_pow]
 by_cases h64 : j < 64
 ·by_cases h1 : j < d
  ·have h2 : j < d + (8 - (at_ + d) % 8) := by omega
   have h3 : ¬ d ≤ j := by omega
   simp [h64, h1, h2, h3]
  ·have h3 : d ≤ j := by omega
   by_cases h2 : j < d + (8 - (at_ + d) % 8)
   ·have e1 : (at_ + j) / 8 = (at_ + d) / 8 := by omega
    have e2 : (at_ + j) % 8 = j - d + (at_ + d) % 8 := by omega
    have e3 : bit s (at_ + j) = s[(at_ + d) / 8].toNat.testBit (j - d + (at_ + d) % 8) := by
     unfold bit
     rw [e1, e2, ← at_getD s _ hi]
    simp [h64, h1, h2, h3, e3]
   ·have e : s[(at_ + d) / 8].toNat.testBit (j - d + (at_ + d) % 8) = false :=
     Nat.testBit_lt_two_pow (Nat.lt_of_lt_of_le (by simpa using hb) (Nat.pow_le_pow_right (n := 2) (by decide) (by omega : 8 ≤ j - d + (at_ + d) % 8)))
    simp [h64, h1, h2, h3, e]
 ·simp [h64]
def orN : Nat → (Nat → Nat) → Nat
 | 0, _ => 0
 | n + 1, X => orN n X ||| X n
theorem orN_lt (n : Nat) (X : Nat → Nat) (w : Nat) : orN n X < 2 ^ w ↔ ∀ i, i < n → X i < 2 ^ w := by
 induction n with
 | zero => simp [orN, Nat.two_pow_pos]
 | succ n ih =>
   constructor
   ·intro h i hi
    have h1 : orN n X ≤ orN n X ||| X n := Nat.left_le_or
    have h2 : X n ≤ orN n X ||| X n := Nat.right_le_or
    unfold orN at h
    rcases Nat.lt_or_ge i n with h3 | h3
    ·exact ih.1 (by omega) i h3
    ·obtain rfl : i = n := by omega
     omega
   ·intro h
    exact Nat.or_lt_two_pow (ih.2 fun i hi => h i (by omega)) (h n (by omega))
theorem bitLen_le (n w : Nat) : bitLen n ≤ w ↔ n < 2 ^ w := by
 have h := bitLen_spec n
 constructor
 ·intro hw
  exact Nat.lt_of_lt_of_le h.1 (Nat.pow_le_pow_right (by decide) hw)
 ·intro hw
  by_cases h0 : n = 0
  ·simp [bitLen, h0]
  ·rcases Nat.lt_or_ge w (bitLen n) with h1 | h1
   ·have h2 := h.2 h0
    have h3 : 2 ^ w ≤ 2 ^ (bitLen n - 1) := Nat.pow_le_pow_right (by decide) (by omega)
    omega
   ·exact h1
def wid (n : Nat) (X : Nat → Nat) : Nat := bitLen (orN n X)
theorem wid_le (n : Nat) (X : Nat → Nat) (w : Nat) : wid n X ≤ w ↔ ∀ i, i < n → X i < 2 ^ w := by rw [wid, bitLen_le, orN_lt]
def pk (n : Nat) (X : Nat → Nat) (w : Nat) (x : Nat) : Bool := decide (x < n * w) && (X (x / w)).testBit (x % w)
theorem only {s : ByteArray} {n w : Nat} (h : chk s (n * w) = 0) : bytes (need (n * w)) (pk n (fun i => num w (fun j => bit s (i * w + j))) w) = s := by
 obtain ⟨hs, hd⟩ := chk_ok h
 refine bytes_of hs fun x hx => ?_
 unfold pk
 by_cases h1 : x < n * w
 ·have hw : 0 < w := by
   rcases Nat.eq_zero_or_pos w with h0 | h0
   ·subst h0; simp at h1
   ·exact h0
  have h2 : x % w < w := Nat.mod_lt _ hw
  have e : x / w * w + x % w = x := by rw [Nat.mul_comm]; exact Nat.div_add_mod x w
  simp [h1, testBit_num, h2, e]
 ·rw [clean hd hx (by omega)]
  simp [h1]
def tr (n : Nat) (T : Nat → Bool) (x : Nat) : Bool := decide (x < n) && T x
theorem tr_add (T : Nat → Bool) (i : Nat) (h : T i = true) : oct (tr i T) (i / 8) + 2 ^ (i % 8) = oct (tr (i + 1) T) (i / 8) := by
 unfold oct
 rw [num_add (by omega) (by unfold tr; have : ¬ 8 * (i / 8) + i % 8 < i := by omega
                            simp [this])]
 refine num_congr fun j hj => ?_
 unfold tr
 by_cases h1 : j = i % 8
 ·subst h1
  have e : 8 * (i / 8) + i % 8 = i := by omega
  simp [e, h]
 ·by_cases h2 : 8 * (i / 8) + j < i
  ·have h3 : 8 * (i / 8) + j < i + 1 := by omega
   simp [h1, h2, h3]
  ·have h3 : ¬ 8 * (i / 8) + j < i + 1 := by omega
   simp [h1, h2, h3]
theorem tr_far (T : Nat → Bool) (i k : Nat) (h : k ≠ i / 8) : oct (tr i T) k = oct (tr (i + 1) T) k := by
 refine oct_congr fun j hj => ?_
 unfold tr
 have : decide (8 * k + j < i) = decide (8 * k + j < i + 1) := by rw [decide_eq_decide]; omega
 rw [this]
end Go.Proofs.Ytodeodndjkkkbaa.Bt
namespace Go.Proofs.Ytodeodndjkkkbaa.Ig
open Go.RowKit
open Ty (num encU zig zag I64 U64)
def encI (x : Int) : List UInt8 := encU (zig x).toNat
def sg (l : List UInt8) : Int := zag ((num l).1 : Int)
def rest (l : List UInt8) : List UInt8 := l.drop (num l).2.1
theorem sg_i64 (l : List UInt8) : I64 (sg l) := Ty.zag_i64 (Ty.num_u64 l)
theorem zag_toNat (x : Int) : zag (((zig x).toNat : Nat) : Int) = x := by rw [Int.toNat_of_nonneg (Ty.zig_nonneg x), Ty.zag_zig]
theorem num_encI (x : Int) (h : I64 x) (r : List UInt8) : num (encI x ++ r) = ((zig x).toNat, (encI x).length, 0) := Ty.num_encU _ (Ty.zig_u64 h) r
theorem read_encI (x : Int) (h : I64 x) (r : List UInt8) : (num (encI x ++ r)).2.2 = 0 ∧ sg (encI x ++ r) = x ∧ rest (encI x ++ r) = r := by
 unfold sg rest
 rw [num_encI x h r]
 exact ⟨rfl, zag_toNat x, by simp⟩
theorem read_encU (n : Nat) (h : U64 n) (r : List UInt8) : (num (encU n ++ r)).2.2 = 0 ∧ (num (encU n ++ r)).1 = n ∧ rest (encU n ++ r) = r := by
 unfold rest
 rw [Ty.num_encU n h r]
 exact ⟨rfl, rfl, by simp⟩
theorem splitU {l : List UInt8} (h : (num l).2.2 = 0) : l = encU (num l).1 ++ rest l := by
 unfold rest
 rw [(Ty.encU_num l h).1, List.take_append_drop]
theorem splitI {l : List UInt8} (h : (num l).2.2 = 0) : l = encI (sg l) ++ rest l := by
 have e : (zig (sg l)).toNat = (num l).1 := by
  unfold sg
  rw [Ty.zig_zag (Int.natCast_nonneg _)]
  simp
 unfold encI
 rw [e]
 exact splitU h
def rdInts : Nat → List UInt8 → Nat × List Int × List UInt8
 | 0, l => (0, [], l)
 | n + 1, l => if (num l).2.2 ≠ 0 then ((num l).2.2, [], l) else ((rdInts n (rest l)).1, sg l :: (rdInts n (rest l)).2.1, (rdInts n (rest l)).2.2)
def acc : Int → List Int → List Int
 | _, [] => []
 | p, x :: xs => wrap64 (p + x) :: acc (wrap64 (p + x)) xs
def diffs : Int → List Int → List Int
 | _, [] => []
 | p, x :: xs => wrap64 (x - p) :: diffs x xs
theorem wrap_i64 (x : Int) : I64 (wrap64 x) := by unfold I64 wrap64; omega
def join1 (x : Int) : List (Nat × Int) → List (Nat × Int)
 | [] => [(1, x)]
 | (k, y) :: g => if y = x then (k + 1, x) :: g else (1, x) :: (k, y) :: g
def grp : List Int → List (Nat × Int)
 | [] => []
 | x :: xs => join1 x (grp xs)
def spread (g : List (Nat × Int)) : List Int := g.flatMap fun p => List.replicate p.1 p.2
def Proper : Option Int → List (Nat × Int) → Prop
 | _, [] => True
 | p, (k, x) :: g => 0 < k ∧ p ≠ some x ∧ Proper (some x) g
def encR (p : Nat × Int) : List UInt8 := encU p.1 ++ encI p.2
def rdRuns : Nat → Nat → Option Int → List UInt8 → Nat × List (Nat × Int) × List UInt8
 | _, 0, _, l => (0, [], l)
 | 0, _, _, l => (0, [], l)
 | f + 1, m, p, l =>
   if (num l).2.2 ≠ 0 then ((num l).2.2, [], l)
   else if (num l).1 = 0 ∨ m < (num l).1 then (4, [], l)
   else if (num (rest l)).2.2 ≠ 0 then ((num (rest l)).2.2, [], l)
   else if p = some (sg (rest l)) then (4, [], l)
   else ((rdRuns f (m - (num l).1) (some (sg (rest l))) (rest (rest l))).1, ((num l).1, sg (rest l)) :: (rdRuns f (m - (num l).1) (some (sg (rest l))) (rest (rest l))).2.1, (rdRuns f (m - (num l).1) (some (sg (rest l))) (rest (rest l))).2.2)
def total (g : List (Nat × Int)) : Nat := (g.map (·.1)).sum
theorem rdRuns_zero (f : Nat) (p : Option Int) (l : List UInt8) : rdRuns f 0 p l = (0, [], l) := by cases f <;> rfl
def low : List Int → Int
 | [] => 0
 | x :: xs => xs.foldl min x
def off (L : List Int) (i : Nat) : Nat := (L.getD i (low L) - low L).toNat
def encP (L : List Int) : List UInt8 := if L = [] then [] else encI (low L) ++ (UInt8.ofNat (Bt.wid L.length (off L)) :: (Bt.bytes (Bt.need (L.length * Bt.wid L.length (off L))) (Bt.pk L.length (off L) (Bt.wid L.length (off L)))).data.toList)
def un (s : ByteArray) (w i : Nat) : Nat := Bt.num w (fun j => Bt.bit s (i * w + j))
def outs (n : Nat) (x : Int) (X : Nat → Nat) : List Int := (List.range n).map fun i => wrap64 (x + (X i : Int))
def good (n w : Nat) (x : Int) (X : Nat → Nat) : Bool := (List.range n).any (fun i => X i == 0) && (Bt.wid n X == w) && (low (outs n x X) == x)
def rdPacked (n : Nat) (l : List UInt8) : Nat × List Int × List UInt8 :=
 if (num l).2.2 ≠ 0 then ((num l).2.2, [], l)
 else match rest l with
  | [] => (2, [], l)
  | b :: r =>
    if 64 < b.toNat then (4, [], l)
    else if r.length < Bt.need (n * b.toNat) then (2, [], l)
    else if Bt.chk ⟨(r.take (Bt.need (n * b.toNat))).toArray⟩ (n * b.toNat) ≠ 0 then (Bt.chk ⟨(r.take (Bt.need (n * b.toNat))).toArray⟩ (n * b.toNat), [], l)
    else if good n b.toNat (sg l) (un ⟨(r.take (Bt.need (n * b.toNat))).toArray⟩ b.toNat) = true then (0, outs n (sg l) (un ⟨(r.take (Bt.need (n * b.toNat))).toArray⟩ b.toNat), r.drop (Bt.need (n * b.toNat)))
    else (4, [], l)
def body (k : Nat) (L : List Int) : List UInt8 := if k = 0 then L.flatMap encI else if k = 1 then (diffs 0 L).flatMap encI else if k = 2 then (grp L).flatMap encR else encP L
def enc (k : Nat) (L : List Int) : List UInt8 := UInt8.ofNat k :: (encU L.length ++ body k L)
def rdBody (k n : Nat) (l : List UInt8) : Nat × List Int × List UInt8 :=
 if k = 0 then rdInts n l
 else if k = 1 then ((rdInts n l).1, acc 0 (rdInts n l).2.1, (rdInts n l).2.2)
 else if k = 2 then ((rdRuns n n none l).1, spread (rdRuns n n none l).2.1, (rdRuns n n none l).2.2)
 else if n = 0 then (0, [], l) else rdPacked n l
def rd (l : List UInt8) : Nat × List Int :=
 match l with
 | [] => (2, [])
 | b :: r =>
   if 3 < b.toNat then (4, [])
   else if (num r).2.2 ≠ 0 then ((num r).2.2, [])
   else if 65536 < (num r).1 then (3, [])
   else if (rdBody b.toNat (num r).1 (rest r)).1 ≠ 0 then ((rdBody b.toNat (num r).1 (rest r)).1, [])
   else if (rdBody b.toNat (num r).1 (rest r)).2.2 ≠ [] then (5, [])
   else (0, (rdBody b.toNat (num r).1 (rest r)).2.1)
end Go.Proofs.Ytodeodndjkkkbaa.Ig
