import Derived.Test.YtbelkhkllneifaaGreatDoorWEAA
import Derived.Laws.MathBits
import Derived.Laws.BitsLemmas
namespace Go.Proofs.YtbelkhkllneifaaGreatDoor.Ty
theorem low_at : ∀ (a n j : Nat), j < a → (low a n).getD j 0 = UInt8.ofNat (n / 256 ^ (a - 1 - j) % 256)
 | 0, _, _, h => by omega
 | a + 1, n, 0, _ => by rw [low_succ]; simp
 | a + 1, n, j + 1, h => by
   rw [low_succ, List.getD_cons_succ, low_at a n j (by omega), show a + 1 - 1 - (j + 1) = a - 1 - j by omega]
theorem head_mod (n : Nat) (hn : U64 n) : (head n).toNat % 64 = n / 256 ^ after (form n) ∧ (head n).toNat / 64 = form n ∧ (head n).toNat ≤ 192 := by
 obtain ⟨h1, h2⟩ := head_is n
 have := form_le n
 by_cases h3 : form n = 3
 ·have e8 : (256 : Nat) ^ 8 = 18446744073709551616 := by decide
  have ed : n / 256 ^ 8 = 0 := by unfold U64 at hn; omega
  rw [if_pos h3] at h1
  rw [h1, h3]
  refine ⟨?_, by omega, by omega⟩
  show 192 % 64 = n / 256 ^ 8
  omega
 ·rw [if_neg h3] at h1
  have hq := h2 h3
  rw [h1]
  generalize n / 256 ^ after (form n) = q at hq ⊢
  exact ⟨by omega, by omega, by omega⟩
theorem at_zero (n : Nat) (r : List UInt8) : (encU n ++ r).getD 0 0 = head n := rfl
theorem at_succ (n : Nat) (r : List UInt8) (j : Nat) (h : j < after (form n)) : (encU n ++ r).getD (j + 1) 0 = UInt8.ofNat (n / 256 ^ (after (form n) - 1 - j) % 256) := by
 rw [encU_split, List.append_assoc, List.singleton_append, List.getD_cons_succ, ← low_at _ n j h]
 rw [List.getD, List.getD, List.getElem?_append_left (by rw [low_length]; exact h)]
theorem pv_encU (n : Nat) (hn : U64 n) (r : List UInt8) : ∀ j, j ≤ after (form n) → pv (encU n ++ r) (j + 1) = n / 256 ^ (after (form n) - j)
 | 0, _ => by
   show ((encU n ++ r).getD 0 0).toNat % 64 = _
   rw [at_zero, (head_mod n hn).1, Nat.sub_zero]
 | j + 1, h => by
   rw [pv_succ _ (j + 1) (by omega), pv_encU n hn r j (by omega), at_succ n r j (by omega), toNat_ofNat8 _ (Nat.mod_lt _ (by omega))]
   have e : after (form n) - j = after (form n) - 1 - j + 1 := by omega
   rw [e, Nat.pow_succ, ← Nat.div_div_eq_div_mul, show after (form n) - (j + 1) = after (form n) - 1 - j by omega]
   omega
theorem small_le (n : Nat) : small (form n) ≤ n := by
 rcases form_is n with ⟨_, h⟩ | ⟨_, _, h⟩ | ⟨_, _, h⟩ | ⟨_, h⟩ <;> rw [h] <;> simp only [small] <;> omega
theorem num_encU (n : Nat) (hn : U64 n) (r : List UInt8) : num (encU n ++ r) = (n, (encU n).length, 0) := by
 obtain ⟨_, h2, h3⟩ := head_mod n hn
 have hp := pv_encU n hn r (after (form n)) (Nat.le_refl _)
 rw [Nat.sub_self, Nat.pow_zero, Nat.div_one] at hp
 have hl : (encU n ++ r).length = 1 + after (form n) + r.length := by rw [List.length_append, encU_length]
 have e : 1 + after (form n) = after (form n) + 1 := by omega
 rw [num_whole (f := form n) (by omega) (by rw [at_zero]; omega) (by rw [at_zero]; exact h2) (by omega) (by rw [e, hp]; have := small_le n; omega), e, hp, encU_length, e]
theorem pv_div (l : List UInt8) : ∀ (d j : Nat), pv l (j + d + 1) / 256 ^ d = pv l (j + 1)
 | 0, j => by simp
 | d + 1, j => by
   have ih := pv_div l d j
   have hb := (l.getD (j + d + 1) 0).toNat_lt
   rw [show j + (d + 1) + 1 = j + d + 1 + 1 by omega, pv_succ l (j + d + 1) (by omega), Nat.pow_succ, Nat.mul_comm (256 ^ d) 256, ← Nat.div_div_eq_div_mul, ← ih]
   congr 1
   omega
theorem pv_form (l : List UInt8) (f : Nat) (hf : f ≤ 3) (h3 : f = 3 → (l.getD 0 0).toNat % 64 = 0) (hs : small f ≤ pv l (1 + after f)) : form (pv l (1 + after f)) = f := by
 rcases (by omega : f = 0 ∨ f = 1 ∨ f = 2 ∨ f = 3) with rfl | rfl | rfl | rfl
 ·have h1 := pv_lt l 0
  have hs' : 0 ≤ pv l (0 + 1) := by omega
  show form (pv l (0 + 1)) = 0
  unfold form; rw [if_pos (by omega)]
 ·have h1 := pv_lt l 1
  have hs' : 64 ≤ pv l (1 + 1) := hs
  show form (pv l (1 + 1)) = 1
  unfold form; rw [if_neg (by omega), if_pos (by omega)]
 ·have h1 := pv_lt l 3
  have hs' : 16384 ≤ pv l (3 + 1) := hs
  show form (pv l (3 + 1)) = 2
  unfold form; rw [if_neg (by omega), if_neg (by omega), if_pos (by omega)]
 ·have hs' : 1073741824 ≤ pv l (8 + 1) := hs
  show form (pv l (8 + 1)) = 3
  unfold form; rw [if_neg (by omega), if_neg (by omega), if_neg (by omega)]
theorem low_pv (l : List UInt8) : ∀ (a m : Nat), m + a + 1 ≤ l.length → low a (pv l (m + a + 1)) = (l.drop (m + 1)).take a
 | 0, m, _ => by simp [low]
 | a + 1, m, h => by
   rw [low_succ, show m + (a + 1) + 1 = (m + 1) + a + 1 by omega, low_pv l a (m + 1) (by omega), pv_div l a (m + 1), pv_succ l (m + 1) (by omega)]
   have hb := (l.getD (m + 1) 0).toNat_lt
   have hl : m + 1 < l.length := by omega
   rw [List.drop_eq_getElem_cons hl, List.take_succ_cons]
   congr 1
   have e : l.getD (m + 1) 0 = l[m + 1] := by rw [List.getD, List.getElem?_eq_getElem hl]; rfl
   rw [e] at hb ⊢
   rw [show (pv l (m + 1) * 256 + l[m + 1].toNat) % 256 = l[m + 1].toNat by omega]
   simp
theorem encU_num (l : List UInt8) (h : (num l).2.2 = 0) : encU (num l).1 = l.take (num l).2.1 ∧ (num l).2.1 ≤ l.length := by
 rcases num_cases l with ⟨_, hne, f, hf, h1, h2, h3, e, hl, hs⟩ | ⟨h', _⟩
 ·rw [e]
  refine ⟨?_, hl⟩
  have h30 : f = 3 → (l.getD 0 0).toNat % 64 = 0 := by intro h; subst h; omega
  have hfm := pv_form l f hf h30 hs
  show encU (pv l (1 + after f)) = l.take (1 + after f)
  unfold encU
  rw [hfm]
  have hp := low_pv l (after f) 0 (by omega)
  rw [show 0 + after f + 1 = 1 + after f by omega, Nat.zero_add] at hp
  rw [hp]
  obtain ⟨b, r, rfl⟩ : ∃ b r, l = b :: r := by cases l with
   | nil => exact absurd rfl hne
   | cons b r => exact ⟨b, r, rfl⟩
  rw [show 1 + after f = after f + 1 by omega, List.take_succ_cons, List.drop_one, List.tail_cons]
  congr 1
  apply UInt8.toNat_inj.1
  rw [(head_is _).1, show after f + 1 = 1 + after f by omega, hfm]
  have hd := pv_div (b :: r) (after f) 0
  rw [show 0 + after f + 1 = 1 + after f by omega] at hd
  have hb1 : pv (b :: r) (0 + 1) = b.toNat % 64 := rfl
  simp only [List.getD_cons_zero] at h1 h2 h3
  split
  ·rename_i h
   subst h
   omega
  ·rw [hd, hb1]
   omega
 ·omega
end Go.Proofs.YtbelkhkllneifaaGreatDoor.Ty
namespace Go.Proofs.YtbelkhkllneifaaGreatDoor.Bt
open Go
def num : Nat → (Nat → Bool) → Nat
 | 0, _ => 0
 | w + 1, g => num w g + (g w).toNat * 2 ^ w
theorem num_lt (w : Nat) (g : Nat → Bool) : num w g < 2 ^ w := by
 induction w with
 | zero => simp [num]
 | succ w ih =>
   have : (g w).toNat * 2 ^ w ≤ 2 ^ w := by cases g w <;> simp
   rw [Nat.pow_succ]
   unfold num
   omega
theorem testBit_num (w : Nat) (g : Nat → Bool) (j : Nat) : (num w g).testBit j = (decide (j < w) && g j) := by
 induction w with
 | zero => simp [num]
 | succ w ih =>
   have e : num (w + 1) g = 2 ^ w * (g w).toNat + num w g := by
    show num w g + (g w).toNat * 2 ^ w = _
    rw [Nat.mul_comm, Nat.add_comm]
   rw [e, Nat.testBit_two_pow_mul_add _ (num_lt w g), ih]
   by_cases h : j < w
   ·simp [h, Nat.lt_succ_of_lt h]
   ·rw [if_neg h]
    by_cases h2 : j = w
    ·subst h2
     cases g j <;> simp
    ·have h3 : ¬ j < w + 1 := by omega
     have h4 : (g w).toNat < 2 ^ (j - w) := Nat.lt_of_le_of_lt (Bool.toNat_le _) (Nat.one_lt_two_pow (by omega))
     rw [Nat.testBit_lt_two_pow h4]
     simp [h3]
theorem num_is {w n : Nat} {g : Nat → Bool} (hn : n < 2 ^ w) (h : ∀ j, j < w → n.testBit j = g j) : num w g = n := by
 refine Nat.eq_of_testBit_eq fun j => ?_
 rw [testBit_num]
 by_cases hj : j < w
 ·rw [h j hj]; simp [hj]
 ·rw [Nat.testBit_lt_two_pow (Nat.lt_of_lt_of_le hn (Nat.pow_le_pow_right (by decide) (by omega)))]
  simp [hj]
theorem num_congr {w : Nat} {g h : Nat → Bool} (e : ∀ j, j < w → g j = h j) : num w g = num w h := by
 refine num_is (num_lt w h) fun j hj => ?_
 rw [testBit_num, e j hj]
 simp [hj]
theorem num_add {w : Nat} {g : Nat → Bool} {j : Nat} (hj : j < w) (hg : g j = false) : num w g + 2 ^ j = num w (fun i => g i || decide (i = j)) := by
 induction w with
 | zero => omega
 | succ w ih =>
   unfold num
   by_cases e : j = w
   ·subst e
    have : num j g = num j (fun i => g i || decide (i = j)) := num_congr fun i hi => by
     have : i ≠ j := by omega
     simp [this]
    rw [← this, hg]
    simp
   ·rw [← ih (by omega)]
    have : ¬ w = j := by omega
    simp [this]
    omega
def oct (F : Nat → Bool) (i : Nat) : Nat := num 8 (fun j => F (8 * i + j))
theorem oct_lt (F : Nat → Bool) (i : Nat) : oct F i < 256 := num_lt 8 _
theorem oct_congr {F G : Nat → Bool} {i : Nat} (e : ∀ j, j < 8 → F (8 * i + j) = G (8 * i + j)) : oct F i = oct G i := num_congr e
theorem or_oct (g : Nat → Bool) (n k : Nat) : (num 8 g ||| (n * 2 ^ k % 256)) = num 8 (fun j => g j || (decide (k ≤ j) && n.testBit (j - k))) := by
 refine (num_is (Nat.or_lt_two_pow (n := 8) (num_lt 8 _) (Nat.mod_lt _ (by decide))) fun j hj => ?_).symm
 rw [Nat.testBit_or, testBit_num, Nat.testBit_mod_two_pow, Nat.testBit_mul_two_pow]
 simp [hj]
def laid (F : Nat → Bool) (at_ n : Nat) (x : Nat) : Bool := F x || (decide (x / 8 = at_ / 8) && (decide (at_ ≤ x) && n.testBit (x - at_)))
theorem laid_here (F : Nat → Bool) (at_ n : Nat) : (oct F (at_ / 8) ||| (n * 2 ^ (at_ % 8) % 256)) = oct (laid F at_ n) (at_ / 8) := by
 unfold oct
 rw [or_oct]
 refine num_congr fun j hj => ?_
 unfold laid
 have e1 : (8 * (at_ / 8) + j) / 8 = at_ / 8 := by omega
 have e2 : decide (at_ ≤ 8 * (at_ / 8) + j) = decide (at_ % 8 ≤ j) := by
  rw [decide_eq_decide]; omega
 have e3 : 8 * (at_ / 8) + j - at_ = j - at_ % 8 := by omega
 rw [e1, e2, e3]
 simp
theorem laid_far (F : Nat → Bool) (at_ n i : Nat) (h : i ≠ at_ / 8) : oct F i = oct (laid F at_ n) i := by
 refine oct_congr fun j hj => ?_
 unfold laid
 have e1 : ¬ (8 * i + j) / 8 = at_ / 8 := by omega
 simp [e1]
def putF (F : Nat → Bool) (at_ n : Nat) (x : Nat) : Bool := F x || (decide (at_ ≤ x) && n.testBit (x - at_))
theorem putF_next (F : Nat → Bool) (at_ n : Nat) (x : Nat) : putF F at_ n x = putF (laid F at_ n) (at_ + (8 - at_ % 8)) (n / 2 ^ (8 - at_ % 8)) x := by
 unfold putF laid
 rw [Nat.testBit_div_two_pow]
 by_cases h1 : at_ ≤ x
 ·by_cases h2 : x / 8 = at_ / 8
  ·have h3 : ¬ at_ + (8 - at_ % 8) ≤ x := by omega
   simp [h1, h2, h3]
  ·have h3 : at_ + (8 - at_ % 8) ≤ x := by omega
   have e : x - (at_ + (8 - at_ % 8)) + (8 - at_ % 8) = x - at_ := by omega
   simp [h1, h2, h3, e]
 ·have h3 : ¬ at_ + (8 - at_ % 8) ≤ x := by omega
  simp [h1, h3]
theorem putF_zero (F : Nat → Bool) (at_ : Nat) : putF F at_ 0 = F := by
 funext x
 simp [putF]
theorem put_room {sz at_ n : Nat} (hn : n < 2 ^ (8 * sz - at_)) (h0 : 0 < n) : at_ < 8 * sz := by
 rcases Nat.lt_or_ge at_ (8 * sz) with h | h
 ·exact h
 ·rw [Nat.sub_eq_zero_of_le h] at hn
  omega
theorem put_less {sz at_ n : Nat} (hn : n < 2 ^ (8 * sz - at_)) (h0 : 0 < n) : n / 2 ^ (8 - at_ % 8) < 2 ^ (8 * sz - (at_ + (8 - at_ % 8))) := by
 have hr := put_room hn h0
 rw [Nat.div_lt_iff_lt_mul (Nat.two_pow_pos _), ← Nat.pow_add]
 have e : 8 * sz - (at_ + (8 - at_ % 8)) + (8 - at_ % 8) = 8 * sz - at_ := by omega
 rw [e]
 exact hn
theorem put_down {n k : Nat} (h0 : 0 < n) : n / 2 ^ (8 - k % 8) < n := Nat.div_lt_self h0 (Nat.one_lt_two_pow (by omega))
def bit (s : ByteArray) (k : Nat) : Bool := (s.data.toList.getD (k / 8) 0).toNat.testBit (k % 8)
theorem length_data (s : ByteArray) : s.data.toList.length = s.size := by rw [Array.length_toList]; rfl
theorem at_getD (s : ByteArray) (k : Nat) (h : k < s.size) : s[k] = s.data.toList.getD k 0 := by
 have h2 : k < s.data.toList.length := by rw [length_data]; exact h
 rw [List.getD, List.getElem?_eq_getElem h2]; rfl
theorem bit_out (s : ByteArray) (k : Nat) (h : s.size ≤ k / 8) : bit s k = false := by
 unfold bit
 rw [List.getD, List.getElem?_eq_none (by rw [length_data]; exact h)]
 simp
def bytes (sz : Nat) (F : Nat → Bool) : ByteArray := ⟨((List.range sz).map fun i => UInt8.ofNat (oct F i)).toArray⟩
theorem size_bytes (sz : Nat) (F : Nat → Bool) : (bytes sz F).size = sz := by
 rw [← length_data]; simp [bytes]
theorem toNat_oct (F : Nat → Bool) (i : Nat) : (UInt8.ofNat (oct F i)).toNat = oct F i := by
 have := oct_lt F i
 simp [UInt8.toNat_ofNat']; omega
theorem bit_bytes (sz : Nat) (F : Nat → Bool) (k : Nat) : bit (bytes sz F) k = (decide (k < 8 * sz) && F k) := by
 by_cases h : k < 8 * sz
 ·have h2 : k / 8 < sz := by omega
  unfold bit bytes
  rw [List.getD, List.getElem?_map, List.getElem?_range h2]
  show (UInt8.ofNat (oct F (k / 8))).toNat.testBit (k % 8) = _
  rw [toNat_oct, oct, testBit_num]
  have e : 8 * (k / 8) + k % 8 = k := by omega
  have e2 : k % 8 < 8 := by omega
  simp [h, e, e2]
 ·rw [bit_out _ _ (by rw [size_bytes]; omega)]
  simp [h]
theorem bytes_congr {sz : Nat} {F G : Nat → Bool} (e : ∀ x, x < 8 * sz → F x = G x) : bytes sz F = bytes sz G := by
 unfold bytes
 congr 2
 refine List.map_congr_left fun i hi => ?_
 rw [List.mem_range] at hi
 rw [oct_congr fun j hj => e _ (by omega)]
theorem bytes_bit (s : ByteArray) : bytes s.size (bit s) = s := by
 unfold bytes
 have e : ((List.range s.size).map fun i => UInt8.ofNat (oct (bit s) i)) = s.data.toList := by
  refine List.ext_getElem (by rw [length_data]; simp) fun i h1 h2 => ?_
  have h3 : i < s.size := by simpa using h1
  rw [List.getElem_map, List.getElem_range]
  have e2 : oct (bit s) i = (s.data.toList[i]).toNat := by
   refine num_is (s.data.toList[i]).toNat_lt fun j hj => ?_
   have e3 : (8 * i + j) / 8 = i := by omega
   have e4 : (8 * i + j) % 8 = j := by omega
   unfold bit
   rw [e3, e4, List.getD, List.getElem?_eq_getElem h2]
   rfl
  rw [e2]
  simp
 rw [e]
theorem bytes_of {s : ByteArray} {sz : Nat} {F : Nat → Bool} (hs : s.size = sz) (e : ∀ x, x < 8 * sz → F x = bit s x) : bytes sz F = s := by
 subst hs
 rw [bytes_congr e, bytes_bit]
def need (n : Nat) : Nat := (n + 7) / 8
theorem need_room (n : Nat) : n ≤ 8 * need n ∧ 8 * need n < n + 8 := by unfold need; omega
def dirty (s : ByteArray) (n : Nat) : Bool := (List.range (8 * need n)).any fun k => decide (n ≤ k) && bit s k
theorem dirty_iff (s : ByteArray) (n : Nat) : dirty s n = true ↔ ∃ k, k < 8 * need n ∧ n ≤ k ∧ bit s k = true := by
 unfold dirty
 rw [List.any_eq_true]
 constructor
 ·rintro ⟨k, h1, h2⟩
  rw [List.mem_range] at h1
  simp at h2
  exact ⟨k, h1, h2.1, h2.2⟩
 ·rintro ⟨k, h1, h2, h3⟩
  exact ⟨k, List.mem_range.2 h1, by simp [h2, h3]⟩
theorem dirty_none (s : ByteArray) (n : Nat) (h : n % 8 = 0) : dirty s n = false := by
 rw [Bool.eq_false_iff]
 intro e
 obtain ⟨k, h1, h2, _⟩ := (dirty_iff s n).1 e
 unfold need at h1
 omega
theorem clean {s : ByteArray} {n k : Nat} (h : dirty s n = false) (h1 : k < 8 * need n) (h2 : n ≤ k) : bit s k = false := by
 rw [Bool.eq_false_iff]
 intro e
 rw [(dirty_iff s n).2 ⟨k, h1, h2, e⟩] at h
 cases h
theorem dirty_last (s : ByteArray) (n : Nat) (h : 0 < n % 8) (hs : s.size = need n) (hl : s.size - 1 < s.size) : dirty s n = decide (s[s.size - 1].toNat / 2 ^ (n % 8) ≠ 0) := by
 have hlast : s.size - 1 = n / 8 := by unfold need at hs; omega
 rw [Bool.eq_iff_iff, dirty_iff, decide_eq_true_iff]
 have hb := s[s.size - 1].toNat_lt
 constructor
 ·rintro ⟨k, h1, h2, h3⟩ h0
  have hk : k / 8 = n / 8 := by unfold need at h1; omega
  unfold bit at h3
  rw [hk, ← hlast, ← at_getD s _ hl] at h3
  have h5 : (s[s.size - 1].toNat / 2 ^ (n % 8)).testBit (k % 8 - n % 8) = true := by
   rw [Nat.testBit_div_two_pow]
   have : k % 8 - n % 8 + n % 8 = k % 8 := by omega
   rw [this]
   exact h3
  rw [h0] at h5
  simp at h5
 ·intro h0
  obtain ⟨j, hj⟩ := Nat.exists_testBit_of_ne_zero h0
  rw [Nat.testBit_div_two_pow] at hj
  have hj8 : j + n % 8 < 8 := by
   rcases Nat.lt_or_ge (j + n % 8) 8 with h | h
   ·exact h
   ·rw [Nat.testBit_lt_two_pow (Nat.lt_of_lt_of_le (by simpa using hb) (Nat.pow_le_pow_right (n := 2) (by decide) h))] at hj
    cases hj
  refine ⟨8 * (n / 8) + (j + n % 8), by unfold need; omega, by omega, ?_⟩
  unfold bit
  have e1 : (8 * (n / 8) + (j + n % 8)) / 8 = n / 8 := by omega
  have e2 : (8 * (n / 8) + (j + n % 8)) % 8 = j + n % 8 := by omega
  rw [e1, e2, ← hlast, ← at_getD s _ hl]
  exact hj
def chk (s : ByteArray) (n : Nat) : Nat := if s.size < need n then 2 else if need n < s.size then 3 else if dirty s n = true then 5 else 0
theorem chk_ok {s : ByteArray} {n : Nat} (h : chk s n = 0) : s.size = need n ∧ dirty s n = false := by
 unfold chk at h
 split at h
 ·cases h
 ·split at h
  ·cases h
  ·split at h
   ·cases h
   ·rename_i h1 h2 h3
    exact ⟨by omega, by simpa using h3⟩
theorem chk_is {s : ByteArray} {n : Nat} (h : s.size = need n) (hd : dirty s n = false) : chk s n = 0 := by
 unfold chk
 rw [if_neg (by omega), if_neg (by omega), hd]
 rfl
def Got (s : ByteArray) (at_ d n : Nat) : Prop := n < 2 ^ 64 ∧ ∀ j, n.testBit j = (decide (j < d) && (decide (j < 64) && bit s (at_ + j)))
theorem Got.zero (s : ByteArray) (at_ : Nat) : Got s at_ 0 0 := ⟨by decide, fun j => by simp⟩
theorem Got.next {s : ByteArray} {at_ d n : Nat} (h : Got s at_ d n) (hi : (at_ + d) / 8 < s.size) : Got s at_ (d + (8 - (at_ + d) % 8)) (n ||| (s[(at_ + d) / 8].toNat / 2 ^ ((at_ + d) % 8) * 2 ^ d % 2 ^ 64)) := by
 refine ⟨Nat.or_lt_two_pow h.1 (Nat.mod_lt _ (Nat.two_pow_pos _)), fun j => ?_⟩
 have hb := s[(at_ + d) / 8].toNat_lt
 rw [Nat.testBit_or, h.2 j, Nat.testBit_mod_two_pow, Nat.testBit_mul_two_pow, Nat.testBit_div_two_pow]
 by_cases h64 : j < 64
 ·by_cases h1 : j < d
  ·have h2 : j < d + (8 - (at_ + d) % 8) := by omega
   have h3 : ¬ d ≤ j := by omega
   simp [h64, h1, h2, h3]
  ·have h3 : d ≤ j := by omega
   by_cases h2 : j < d + (8 - (at_ + d) % 8)
   ·have e1 : (at_ + j) / 8 = (at_ + d) / 8 := by omega
    have e2 : (at_ + j) % 8 = j - d + (at_ + d) % 8 := by omega
    have e3 : bit s (at_ + j) = s[(at_ + d) / 8].toNat.testBit (j - d + (at_ + d) % 8) := by
     unfold bit
     rw [e1, e2, ← at_getD s _ hi]
    simp [h64, h1, h2, h3, e3]
   ·have e : s[(at_ + d) / 8].toNat.testBit (j - d + (at_ + d) % 8) = false :=
     Nat.testBit_lt_two_pow (Nat.lt_of_lt_of_le (by simpa using hb) (Nat.pow_le_pow_right (n := 2) (by decide) (by omega : 8 ≤ j - d + (at_ + d) % 8)))
    simp [h64, h1, h2, h3, e]
 ·simp [h64]
theorem Got.last {s : ByteArray} {at_ d n w : Nat} (h : Got s at_ d n) (hd : w ≤ d) (hw : w ≤ 64) : n &&& (2 ^ w - 1) = num w (fun j => bit s (at_ + j)) := by
 refine (num_is (Nat.and_lt_two_pow _ (Nat.sub_lt (Nat.two_pow_pos _) (by decide))) fun j hj => ?_).symm
 rw [Nat.testBit_and, h.2 j, Nat.testBit_two_pow_sub_one]
 have h1 : j < d := by omega
 have h2 : j < 64 := by omega
 simp [hj, h1, h2]
def orN : Nat → (Nat → Nat) → Nat
 | 0, _ => 0
 | n + 1, X => orN n X ||| X n
theorem orN_lt (n : Nat) (X : Nat → Nat) (w : Nat) : orN n X < 2 ^ w ↔ ∀ i, i < n → X i < 2 ^ w := by
 induction n with
 | zero => simp [orN, Nat.two_pow_pos]
 | succ n ih =>
   constructor
   ·intro h i hi
    have h1 : orN n X ≤ orN n X ||| X n := Nat.left_le_or
    have h2 : X n ≤ orN n X ||| X n := Nat.right_le_or
    unfold orN at h
    rcases Nat.lt_or_ge i n with h3 | h3
    ·exact ih.1 (by omega) i h3
    ·obtain rfl : i = n := by omega
     omega
   ·intro h
    exact Nat.or_lt_two_pow (ih.2 fun i hi => h i (by omega)) (h n (by omega))
theorem bitLen_le (n w : Nat) : bitLen n ≤ w ↔ n < 2 ^ w := by
 have h := bitLen_spec n
 constructor
 ·intro hw
  exact Nat.lt_of_lt_of_le h.1 (Nat.pow_le_pow_right (by decide) hw)
 ·intro hw
  by_cases h0 : n = 0
  ·simp [bitLen, h0]
  ·rcases Nat.lt_or_ge w (bitLen n) with h1 | h1
   ·have h2 := h.2 h0
    have h3 : 2 ^ w ≤ 2 ^ (bitLen n - 1) := Nat.pow_le_pow_right (by decide) (by omega)
    omega
   ·exact h1
def wid (n : Nat) (X : Nat → Nat) : Nat := bitLen (orN n X)
theorem wid_le (n : Nat) (X : Nat → Nat) (w : Nat) : wid n X ≤ w ↔ ∀ i, i < n → X i < 2 ^ w := by rw [wid, bitLen_le, orN_lt]
theorem wid_64 {n : Nat} {X : Nat → Nat} (h : ∀ i, X i < 2 ^ 64) : wid n X ≤ 64 := (wid_le _ _ _).2 fun i _ => h i
def pk (n : Nat) (X : Nat → Nat) (w : Nat) (x : Nat) : Bool := decide (x < n * w) && (X (x / w)).testBit (x % w)
theorem div_mid {w i j : Nat} (hj : j < w) : (i * w + j) / w = i ∧ (i * w + j) % w = j := by
 constructor
 ·rw [Nat.mul_comm, Nat.mul_add_div (by omega), Nat.div_eq_of_lt hj]; rfl
 ·rw [Nat.mul_comm, Nat.mul_add_mod, Nat.mod_eq_of_lt hj]
theorem pk_put (X : Nat → Nat) (w i : Nat) (h : X i < 2 ^ w) : pk (i + 1) X w = putF (pk i X w) (i * w) (X i) := by
 funext x
 unfold putF pk
 have e : (i + 1) * w = i * w + w := Nat.succ_mul i w
 by_cases h1 : x < i * w
 ·have h2 : x < (i + 1) * w := by omega
  have h3 : ¬ i * w ≤ x := by omega
  simp [h1, h2, h3]
 ·have h3 : i * w ≤ x := by omega
  by_cases h2 : x < (i + 1) * w
  ·obtain ⟨d, m⟩ := div_mid (i := i) (j := x - i * w) (w := w) (by omega)
   have ex : i * w + (x - i * w) = x := by omega
   rw [ex] at d m
   simp [h1, h2, h3, d, m]
  ·have : (X i).testBit (x - i * w) = false := Nat.testBit_lt_two_pow (Nat.lt_of_lt_of_le h (Nat.pow_le_pow_right (by decide) (by omega)))
   simp [h1, h2, h3, this]
theorem pk_zero (X : Nat → Nat) (w : Nat) : pk 0 X w = fun _ => false := by
 funext x
 simp [pk]
theorem pk_at {n : Nat} (X : Nat → Nat) (w i j : Nat) (hi : i < n) (hj : j < w) : pk n X w (i * w + j) = (X i).testBit j := by
 obtain ⟨d, m⟩ := div_mid (i := i) hj
 have h : i * w + j < n * w := by
  have : (i + 1) * w ≤ n * w := Nat.mul_le_mul_right _ hi
  rw [Nat.succ_mul] at this
  omega
 unfold pk
 rw [d, m]
 simp [h]
theorem num_pk {n : Nat} {X : Nat → Nat} {w i : Nat} (hi : i < n) (h : X i < 2 ^ w) : num w (fun j => pk n X w (i * w + j)) = X i := num_is h fun j hj => (pk_at X w i j hi hj).symm
theorem mid_lt {n w i j : Nat} (hi : i < n) (hj : j < w) : i * w + j < n * w := by
 have : (i + 1) * w ≤ n * w := Nat.mul_le_mul_right _ hi
 rw [Nat.succ_mul] at this
 omega
theorem back {n : Nat} {X : Nat → Nat} {w i : Nat} (hi : i < n) (h : X i < 2 ^ w) : num w (fun j => bit (bytes (need (n * w)) (pk n X w)) (i * w + j)) = X i := by
 rw [← num_pk hi h]
 refine num_congr fun j hj => ?_
 have h1 := mid_lt hi hj
 have h2 := (need_room (n * w)).1
 have h3 : i * w + j < 8 * need (n * w) := by omega
 rw [bit_bytes]
 simp [h3]
theorem chk_pack (n : Nat) (X : Nat → Nat) (w : Nat) : chk (bytes (need (n * w)) (pk n X w)) (n * w) = 0 := by
 refine chk_is (size_bytes _ _) ?_
 rw [Bool.eq_false_iff]
 intro e
 obtain ⟨k, h1, h2, h3⟩ := (dirty_iff _ _).1 e
 rw [bit_bytes] at h3
 have : ¬ k < n * w := by omega
 simp [pk, this] at h3
theorem only {s : ByteArray} {n w : Nat} (h : chk s (n * w) = 0) : bytes (need (n * w)) (pk n (fun i => num w (fun j => bit s (i * w + j))) w) = s := by
 obtain ⟨hs, hd⟩ := chk_ok h
 refine bytes_of hs fun x hx => ?_
 unfold pk
 by_cases h1 : x < n * w
 ·have hw : 0 < w := by
   rcases Nat.eq_zero_or_pos w with h0 | h0
   ·subst h0; simp at h1
   ·exact h0
  have h2 : x % w < w := Nat.mod_lt _ hw
  have e : x / w * w + x % w = x := by rw [Nat.mul_comm]; exact Nat.div_add_mod x w
  simp [h1, testBit_num, h2, e]
 ·rw [clean hd hx (by omega)]
  simp [h1]
def tr (n : Nat) (T : Nat → Bool) (x : Nat) : Bool := decide (x < n) && T x
theorem chk_truths (n : Nat) (T : Nat → Bool) : chk (bytes (need n) (tr n T)) n = 0 := by
 refine chk_is (size_bytes _ _) ?_
 rw [Bool.eq_false_iff]
 intro e
 obtain ⟨k, h1, h2, h3⟩ := (dirty_iff _ _).1 e
 rw [bit_bytes] at h3
 have : ¬ k < n := by omega
 simp [tr, this] at h3
theorem bit_truths {n : Nat} (T : Nat → Bool) {i : Nat} (h : i < n) : bit (bytes (need n) (tr n T)) i = T i := by
 rw [bit_bytes]
 have := (need_room n).1
 have h2 : i < 8 * need n := by omega
 simp [tr, h, h2]
theorem tr_zero (T : Nat → Bool) : tr 0 T = fun _ => false := by
 funext x
 simp [tr]
theorem tr_put (T : Nat → Bool) (i : Nat) (h : T i = true) : tr (i + 1) T = putF (tr i T) i 1 := by
 funext x
 unfold tr putF
 by_cases h1 : x < i
 ·have : ¬ i ≤ x := by omega
  have h2 : x < i + 1 := by omega
  simp [h1, h2, this]
 ·by_cases h2 : x = i
  ·subst h2
   simp [h]
  ·have h3 : ¬ x < i + 1 := by omega
   have h4 : i ≤ x := by omega
   have h5 : (1 : Nat).testBit (x - i) = false := Nat.testBit_lt_two_pow (x := 1) (Nat.one_lt_two_pow (by omega))
   simp [h1, h3, h4, h5]
theorem tr_skip (T : Nat → Bool) (i : Nat) (h : T i = false) : tr (i + 1) T = tr i T := by
 funext x
 unfold tr
 by_cases h1 : x < i
 ·have h2 : x < i + 1 := by omega
  simp [h1, h2]
 ·by_cases h2 : x = i
  ·subst h2
   simp [h]
  ·have h3 : ¬ x < i + 1 := by omega
   simp [h1, h3]
theorem tr_add (T : Nat → Bool) (i : Nat) (h : T i = true) : oct (tr i T) (i / 8) + 2 ^ (i % 8) = oct (tr (i + 1) T) (i / 8) := by
 unfold oct
 rw [num_add (by omega) (by unfold tr; have : ¬ 8 * (i / 8) + i % 8 < i := by omega
                            simp [this])]
 refine num_congr fun j hj => ?_
 unfold tr
 by_cases h1 : j = i % 8
 ·subst h1
  have e : 8 * (i / 8) + i % 8 = i := by omega
  simp [e, h]
 ·by_cases h2 : 8 * (i / 8) + j < i
  ·have h3 : 8 * (i / 8) + j < i + 1 := by omega
   simp [h1, h2, h3]
  ·have h3 : ¬ 8 * (i / 8) + j < i + 1 := by omega
   simp [h1, h2, h3]
theorem tr_far (T : Nat → Bool) (i k : Nat) (h : k ≠ i / 8) : oct (tr i T) k = oct (tr (i + 1) T) k := by
 refine oct_congr fun j hj => ?_
 unfold tr
 have : decide (8 * k + j < i) = decide (8 * k + j < i + 1) := by rw [decide_eq_decide]; omega
 rw [this]
end Go.Proofs.YtbelkhkllneifaaGreatDoor.Bt
namespace Go.Proofs.YtbelkhkllneifaaGreatDoor.Ig
open Go.RowKit
open Ty (num encU zig zag I64 U64)
def encI (x : Int) : List UInt8 := encU (zig x).toNat
def sg (l : List UInt8) : Int := zag ((num l).1 : Int)
def rest (l : List UInt8) : List UInt8 := l.drop (num l).2.1
theorem sg_i64 (l : List UInt8) : I64 (sg l) := Ty.zag_i64 (Ty.num_u64 l)
theorem zag_toNat (x : Int) : zag (((zig x).toNat : Nat) : Int) = x := by rw [Int.toNat_of_nonneg (Ty.zig_nonneg x), Ty.zag_zig]
theorem num_encI (x : Int) (h : I64 x) (r : List UInt8) : num (encI x ++ r) = ((zig x).toNat, (encI x).length, 0) := Ty.num_encU _ (Ty.zig_u64 h) r
theorem read_encI (x : Int) (h : I64 x) (r : List UInt8) : (num (encI x ++ r)).2.2 = 0 ∧ sg (encI x ++ r) = x ∧ rest (encI x ++ r) = r := by
 unfold sg rest
 rw [num_encI x h r]
 exact ⟨rfl, zag_toNat x, by simp⟩
theorem read_encU (n : Nat) (h : U64 n) (r : List UInt8) : (num (encU n ++ r)).2.2 = 0 ∧ (num (encU n ++ r)).1 = n ∧ rest (encU n ++ r) = r := by
 unfold rest
 rw [Ty.num_encU n h r]
 exact ⟨rfl, rfl, by simp⟩
theorem splitU {l : List UInt8} (h : (num l).2.2 = 0) : l = encU (num l).1 ++ rest l := by
 unfold rest
 rw [(Ty.encU_num l h).1, List.take_append_drop]
theorem splitI {l : List UInt8} (h : (num l).2.2 = 0) : l = encI (sg l) ++ rest l := by
 have e : (zig (sg l)).toNat = (num l).1 := by
  unfold sg
  rw [Ty.zig_zag (Int.natCast_nonneg _)]
  simp
 unfold encI
 rw [e]
 exact splitU h
def rdInts : Nat → List UInt8 → Nat × List Int × List UInt8
 | 0, l => (0, [], l)
 | n + 1, l => if (num l).2.2 ≠ 0 then ((num l).2.2, [], l) else ((rdInts n (rest l)).1, sg l :: (rdInts n (rest l)).2.1, (rdInts n (rest l)).2.2)
theorem rdInts_back (L : List Int) (h : ∀ x ∈ L, I64 x) (r : List UInt8) : rdInts L.length (L.flatMap encI ++ r) = (0, L, r) := by
 induction L with
 | nil => rfl
 | cons x L ih =>
   have e : (x :: L).flatMap encI ++ r = encI x ++ (L.flatMap encI ++ r) := by simp
   obtain ⟨h1, h2, h3⟩ := read_encI x (h x (by simp)) (L.flatMap encI ++ r)
   rw [e]
   simp only [List.length_cons, rdInts]
   rw [if_neg (by rw [h1]; simp), h2, h3, ih fun y hy => h y (by simp [hy])]
theorem rdInts_only (n : Nat) : ∀ l : List UInt8, (rdInts n l).1 = 0 → l = (rdInts n l).2.1.flatMap encI ++ (rdInts n l).2.2 ∧ (rdInts n l).2.1.length = n ∧ ∀ x ∈ (rdInts n l).2.1, I64 x := by
 induction n with
 | zero => intro l _; simp [rdInts]
 | succ n ih =>
   intro l h
   simp only [rdInts] at h ⊢
   by_cases h1 : (num l).2.2 ≠ 0
   ·rw [if_pos h1] at h
    exact absurd h h1
   ·rw [if_neg h1] at h ⊢
    obtain ⟨e1, e2, e3⟩ := ih (rest l) h
    refine ⟨?_, by simp [e2], ?_⟩
    ·simp only [List.flatMap_cons, List.append_assoc]
     rw [← e1]
     exact splitI (by simpa using h1)
    ·intro x hx
     rcases List.mem_cons.1 hx with rfl | hx
     ·exact sg_i64 l
     ·exact e3 x hx
def acc : Int → List Int → List Int
 | _, [] => []
 | p, x :: xs => wrap64 (p + x) :: acc (wrap64 (p + x)) xs
def diffs : Int → List Int → List Int
 | _, [] => []
 | p, x :: xs => wrap64 (x - p) :: diffs x xs
theorem wrap_i64 (x : Int) : I64 (wrap64 x) := by unfold I64 wrap64; omega
theorem acc_diffs : ∀ (L : List Int) (p : Int), I64 p → (∀ x ∈ L, I64 x) → acc p (diffs p L) = L
 | [], _, _, _ => rfl
 | x :: L, p, hp, hL => by
   have hx := hL x (by simp)
   have e : wrap64 (p + wrap64 (x - p)) = x := by
    unfold I64 at hp hx
    unfold wrap64
    omega
   simp only [diffs, acc]
   rw [e, acc_diffs L x hx fun y hy => hL y (by simp [hy])]
theorem diffs_acc : ∀ (D : List Int) (p : Int), I64 p → (∀ x ∈ D, I64 x) → diffs p (acc p D) = D
 | [], _, _, _ => rfl
 | x :: D, p, hp, hD => by
   have hx := hD x (by simp)
   have e : wrap64 (wrap64 (p + x) - p) = x := by
    unfold I64 at hp hx
    unfold wrap64
    omega
   simp only [diffs, acc]
   rw [e, diffs_acc D _ (wrap_i64 _) fun y hy => hD y (by simp [hy])]
theorem acc_len : ∀ (D : List Int) (p : Int), (acc p D).length = D.length
 | [], _ => rfl
 | _ :: D, _ => by simp [acc, acc_len D]
theorem diffs_len : ∀ (D : List Int) (p : Int), (diffs p D).length = D.length
 | [], _ => rfl
 | _ :: D, _ => by simp [diffs, diffs_len D]
theorem acc_i64 : ∀ (D : List Int) (p : Int), ∀ x ∈ acc p D, I64 x
 | [], _, x, h => by cases h
 | y :: D, p, x, h => by
   simp only [acc] at h
   rcases List.mem_cons.1 h with rfl | h
   ·exact wrap_i64 _
   ·exact acc_i64 D _ x h
theorem diffs_i64 : ∀ (D : List Int) (p : Int), ∀ x ∈ diffs p D, I64 x
 | [], _, x, h => by cases h
 | y :: D, p, x, h => by
   simp only [diffs] at h
   rcases List.mem_cons.1 h with rfl | h
   ·exact wrap_i64 _
   ·exact diffs_i64 D _ x h
def join1 (x : Int) : List (Nat × Int) → List (Nat × Int)
 | [] => [(1, x)]
 | (k, y) :: g => if y = x then (k + 1, x) :: g else (1, x) :: (k, y) :: g
def grp : List Int → List (Nat × Int)
 | [] => []
 | x :: xs => join1 x (grp xs)
def spread (g : List (Nat × Int)) : List Int := g.flatMap fun p => List.replicate p.1 p.2
theorem join1_same (x : Int) (k : Nat) (g : List (Nat × Int)) : join1 x ((k, x) :: g) = (k + 1, x) :: g := by simp [join1]
theorem join1_other {x y : Int} (h : ¬ y = x) (k : Nat) (g : List (Nat × Int)) : join1 x ((k, y) :: g) = (1, x) :: (k, y) :: g := by simp [join1, h]
theorem spread_join (x : Int) (g : List (Nat × Int)) : spread (join1 x g) = x :: spread g := by
 cases g with
 | nil => simp [join1, spread]
 | cons p g =>
   obtain ⟨k, y⟩ := p
   by_cases h : y = x
   ·subst h
    rw [join1_same]
    simp [spread, List.replicate_succ]
   ·rw [join1_other h]
    simp [spread]
theorem spread_grp (L : List Int) : spread (grp L) = L := by
 induction L with
 | nil => rfl
 | cons x L ih => rw [grp, spread_join, ih]
def Proper : Option Int → List (Nat × Int) → Prop
 | _, [] => True
 | p, (k, x) :: g => 0 < k ∧ p ≠ some x ∧ Proper (some x) g
theorem proper_join (x : Int) (g : List (Nat × Int)) (h : Proper none g) : Proper none (join1 x g) := by
 cases g with
 | nil => exact ⟨by omega, by simp, trivial⟩
 | cons p g =>
   obtain ⟨k, y⟩ := p
   by_cases e : y = x
   ·subst e
    rw [join1_same]
    exact ⟨by omega, by simp, h.2.2⟩
   ·rw [join1_other e]
    exact ⟨by omega, by simp, h.1, by simp; exact fun h => e h.symm, h.2.2⟩
theorem proper_grp (L : List Int) : Proper none (grp L) := by
 induction L with
 | nil => trivial
 | cons x L ih => exact proper_join x _ ih
theorem grp_rep (k : Nat) (x : Int) (L : List Int) (g : List (Nat × Int)) (hL : grp L = g) (hx : ∀ p ∈ g.head?, p.2 ≠ x) : grp (List.replicate (k + 1) x ++ L) = (k + 1, x) :: g := by
 induction k with
 | zero =>
   show join1 x (grp L) = _
   rw [hL]
   cases g with
   | nil => rfl
   | cons p g =>
     obtain ⟨j, y⟩ := p
     exact join1_other (hx (j, y) (by simp)) j g
 | succ k ih =>
   rw [List.replicate_succ]
   show join1 x (grp (List.replicate (k + 1) x ++ L)) = _
   rw [ih, join1_same]
theorem grp_spread : ∀ (g : List (Nat × Int)) (p : Option Int), Proper p g → grp (spread g) = g
 | [], _, _ => rfl
 | (k, x) :: g, p, h => by
   obtain ⟨hk, _, hg⟩ := h
   have e : spread ((k, x) :: g) = List.replicate k x ++ spread g := by simp [spread]
   obtain ⟨j, rfl⟩ : ∃ j, k = j + 1 := ⟨k - 1, by omega⟩
   rw [e]
   refine grp_rep j x (spread g) g (grp_spread g _ hg) fun q hq => ?_
   cases g with
   | nil => cases hq
   | cons q' g =>
     obtain ⟨i, y⟩ := q'
     obtain rfl : (i, y) = q := by simpa using hq
     intro e
     exact hg.2.1 (by simp only at e; rw [e])
def encR (p : Nat × Int) : List UInt8 := encU p.1 ++ encI p.2
def rdRuns : Nat → Nat → Option Int → List UInt8 → Nat × List (Nat × Int) × List UInt8
 | _, 0, _, l => (0, [], l)
 | 0, _, _, l => (0, [], l)
 | f + 1, m, p, l =>
   if (num l).2.2 ≠ 0 then ((num l).2.2, [], l)
   else if (num l).1 = 0 ∨ m < (num l).1 then (4, [], l)
   else if (num (rest l)).2.2 ≠ 0 then ((num (rest l)).2.2, [], l)
   else if p = some (sg (rest l)) then (4, [], l)
   else ((rdRuns f (m - (num l).1) (some (sg (rest l))) (rest (rest l))).1, ((num l).1, sg (rest l)) :: (rdRuns f (m - (num l).1) (some (sg (rest l))) (rest (rest l))).2.1, (rdRuns f (m - (num l).1) (some (sg (rest l))) (rest (rest l))).2.2)
def total (g : List (Nat × Int)) : Nat := (g.map (·.1)).sum
theorem rdRuns_zero (f : Nat) (p : Option Int) (l : List UInt8) : rdRuns f 0 p l = (0, [], l) := by cases f <;> rfl
theorem rdRuns_back : ∀ (g : List (Nat × Int)) (f m : Nat) (p : Option Int) (r : List UInt8), m ≤ f → m < 2 ^ 64 → total g = m → Proper p g → (∀ q ∈ g, I64 q.2) → rdRuns f m p (g.flatMap encR ++ r) = (0, g, r)
 | [], f, m, p, r, _, _, ht, _, _ => by
   obtain rfl : m = 0 := by simpa [total] using ht.symm
   rw [rdRuns_zero]
   rfl
 | (k, x) :: g, f, m, p, r, hf, hm, ht, hp, hi => by
   obtain ⟨hk, hne, hg⟩ := hp
   have ht2 : k + total g = m := by simpa [total] using ht
   obtain ⟨m', rfl⟩ : ∃ m', m = m' + 1 := ⟨m - 1, by omega⟩
   obtain ⟨f', rfl⟩ : ∃ f', f = f' + 1 := ⟨f - 1, by omega⟩
   have e : ((k, x) :: g).flatMap encR ++ r = encU k ++ (encI x ++ (g.flatMap encR ++ r)) := by simp [encR]
   obtain ⟨a1, a2, a3⟩ := read_encU k (show U64 k by unfold U64; omega) (encI x ++ (g.flatMap encR ++ r))
   obtain ⟨b1, b2, b3⟩ := read_encI x (hi (k, x) (by simp)) (g.flatMap encR ++ r)
   rw [e]
   simp only [rdRuns]
   rw [if_neg (by rw [a1]; simp), a2, if_neg (by omega), a3, if_neg (by rw [b1]; simp), b2, if_neg hne, b3, rdRuns_back g f' (m' + 1 - k) (some x) r (by omega) (by omega) (by omega) hg fun q hq => hi q (by simp [hq])]
theorem rdRuns_only : ∀ (f m : Nat) (p : Option Int) (l : List UInt8), m ≤ f → (rdRuns f m p l).1 = 0 → l = (rdRuns f m p l).2.1.flatMap encR ++ (rdRuns f m p l).2.2 ∧ total (rdRuns f m p l).2.1 = m ∧ Proper p (rdRuns f m p l).2.1 ∧ ∀ q ∈ (rdRuns f m p l).2.1, I64 q.2
 | f, 0, p, l, _, _ => by
   rw [rdRuns_zero]
   exact ⟨rfl, rfl, trivial, fun q hq => by cases hq⟩
 | 0, m + 1, _, _, hf, _ => by omega
 | f + 1, m + 1, p, l, hf, h => by
   simp only [rdRuns] at h ⊢
   by_cases h1 : (num l).2.2 ≠ 0
   ·rw [if_pos h1] at h
    exact absurd h h1
   ·rw [if_neg h1] at h ⊢
    by_cases h2 : (num l).1 = 0 ∨ m + 1 < (num l).1
    ·rw [if_pos h2] at h
     cases h
    ·rw [if_neg h2] at h ⊢
     by_cases h3 : (num (rest l)).2.2 ≠ 0
     ·rw [if_pos h3] at h
      exact absurd h h3
     ·rw [if_neg h3] at h ⊢
      by_cases h4 : p = some (sg (rest l))
      ·rw [if_pos h4] at h
       cases h
      ·rw [if_neg h4] at h ⊢
       obtain ⟨e1, e2, e3, e4⟩ := rdRuns_only f (m + 1 - (num l).1) (some (sg (rest l))) (rest (rest l)) (by omega) h
       refine ⟨?_, ?_, ⟨by omega, h4, e3⟩, ?_⟩
       ·simp only [List.flatMap_cons, List.append_assoc, encR]
        rw [← e1, ← splitI (by simpa using h3)]
        exact splitU (by simpa using h1)
       ·simp only [total, List.map_cons, List.sum_cons] at e2 ⊢
        omega
       ·intro q hq
        rcases List.mem_cons.1 hq with rfl | hq
        ·exact sg_i64 _
        ·exact e4 q hq
theorem total_spread (g : List (Nat × Int)) : (spread g).length = total g := by
 induction g with
 | nil => rfl
 | cons p g ih =>
   have e : spread (p :: g) = List.replicate p.1 p.2 ++ spread g := by simp [spread]
   rw [e, List.length_append, ih]
   simp [total]
theorem grp_i64 (L : List Int) (h : ∀ x ∈ L, I64 x) : ∀ q ∈ grp L, I64 q.2 := by
 intro q hq
 have hp : ∀ (g : List (Nat × Int)) (p : Option Int), Proper p g → ∀ q ∈ g, q.2 ∈ spread g := by
  intro g
  induction g with
  | nil => intro _ _ q hq; cases hq
  | cons a g ih =>
    intro p hp q hq
    have e : spread (a :: g) = List.replicate a.1 a.2 ++ spread g := by simp [spread]
    rw [e]
    rcases List.mem_cons.1 hq with rfl | hq
    ·exact List.mem_append_left _ (List.mem_replicate.2 ⟨by have := hp.1; omega, rfl⟩)
    ·exact List.mem_append_right _ (ih _ hp.2.2 q hq)
 have := hp _ _ (proper_grp L) q hq
 rw [spread_grp] at this
 exact h _ this
theorem spread_i64 (g : List (Nat × Int)) (h : ∀ q ∈ g, I64 q.2) : ∀ x ∈ spread g, I64 x := by
 intro x hx
 obtain ⟨q, hq, hx⟩ := List.mem_flatMap.1 hx
 rw [List.mem_replicate] at hx
 rw [hx.2]
 exact h q hq
def low : List Int → Int
 | [] => 0
 | x :: xs => xs.foldl min x
theorem foldl_min (l : List Int) : ∀ x : Int, l.foldl min x ≤ x ∧ (∀ y ∈ l, l.foldl min x ≤ y) ∧ (l.foldl min x = x ∨ l.foldl min x ∈ l) := by
 induction l with
 | nil => intro x; exact ⟨Int.le_refl _, (fun y hy => by cases hy), .inl rfl⟩
 | cons z l ih =>
   intro x
   obtain ⟨h1, h2, h3⟩ := ih (min x z)
   simp only [List.foldl_cons]
   refine ⟨by omega, fun y hy => ?_, ?_⟩
   ·rcases List.mem_cons.1 hy with rfl | hy
    ·omega
    ·exact h2 y hy
   ·rcases h3 with h3 | h3
    ·by_cases h : x ≤ z
     ·exact .inl (by rw [h3]; omega)
     ·exact .inr (by rw [h3, show min x z = z by omega]; simp)
    ·exact .inr (List.mem_cons_of_mem _ h3)
theorem low_le (L : List Int) : ∀ x ∈ L, low L ≤ x := by
 cases L with
 | nil => intro x hx; cases hx
 | cons a L =>
   intro x hx
   obtain ⟨h1, h2, _⟩ := foldl_min L a
   rcases List.mem_cons.1 hx with rfl | hx
   ·exact h1
   ·exact h2 x hx
theorem low_mem (L : List Int) (h : L ≠ []) : low L ∈ L := by
 cases L with
 | nil => exact absurd rfl h
 | cons a L =>
   obtain ⟨_, _, h3⟩ := foldl_min L a
   rcases h3 with h3 | h3
   ·show L.foldl min a ∈ a :: L
    rw [h3]; simp
   ·exact List.mem_cons_of_mem _ h3
def off (L : List Int) (i : Nat) : Nat := (L.getD i (low L) - low L).toNat
theorem off_lt (L : List Int) (h : ∀ x ∈ L, I64 x) (i : Nat) : off L i < 2 ^ 64 := by
 unfold off
 rw [List.getD]
 cases hg : L[i]? with
 | none => simp
 | some x =>
   have hx := h x (List.mem_of_getElem? hg)
   have hne : L ≠ [] := by intro e; rw [e] at hg; cases hg
   have hl := h _ (low_mem L hne)
   unfold I64 at hx hl
   simp only [Option.getD_some]
   omega
def encP (L : List Int) : List UInt8 := if L = [] then [] else encI (low L) ++ (UInt8.ofNat (Bt.wid L.length (off L)) :: (Bt.bytes (Bt.need (L.length * Bt.wid L.length (off L))) (Bt.pk L.length (off L) (Bt.wid L.length (off L)))).data.toList)
def un (s : ByteArray) (w i : Nat) : Nat := Bt.num w (fun j => Bt.bit s (i * w + j))
def outs (n : Nat) (x : Int) (X : Nat → Nat) : List Int := (List.range n).map fun i => wrap64 (x + (X i : Int))
def good (n w : Nat) (x : Int) (X : Nat → Nat) : Bool := (List.range n).any (fun i => X i == 0) && (Bt.wid n X == w) && (low (outs n x X) == x)
def rdPacked (n : Nat) (l : List UInt8) : Nat × List Int × List UInt8 :=
 if (num l).2.2 ≠ 0 then ((num l).2.2, [], l)
 else match rest l with
  | [] => (2, [], l)
  | b :: r =>
    if 64 < b.toNat then (4, [], l)
    else if r.length < Bt.need (n * b.toNat) then (2, [], l)
    else if Bt.chk ⟨(r.take (Bt.need (n * b.toNat))).toArray⟩ (n * b.toNat) ≠ 0 then (Bt.chk ⟨(r.take (Bt.need (n * b.toNat))).toArray⟩ (n * b.toNat), [], l)
    else if good n b.toNat (sg l) (un ⟨(r.take (Bt.need (n * b.toNat))).toArray⟩ b.toNat) = true then (0, outs n (sg l) (un ⟨(r.take (Bt.need (n * b.toNat))).toArray⟩ b.toNat), r.drop (Bt.need (n * b.toNat)))
    else (4, [], l)
theorem outs_off (L : List Int) (h : ∀ x ∈ L, I64 x) : outs L.length (low L) (off L) = L := by
 unfold outs
 refine List.ext_getElem (by simp) fun i h1 h2 => ?_
 rw [List.getElem_map, List.getElem_range]
 have hx := h _ (List.getElem_mem h2)
 have hl := low_le L _ (List.getElem_mem h2)
 have e : ((off L i : Nat) : Int) = L[i] - low L := by
  unfold off
  rw [List.getD, List.getElem?_eq_getElem h2]
  simp only [Option.getD_some]
  omega
 rw [e]
 unfold I64 at hx
 unfold wrap64
 omega
theorem good_off (L : List Int) (hne : L ≠ []) (h : ∀ x ∈ L, I64 x) : good L.length (Bt.wid L.length (off L)) (low L) (off L) = true := by
 unfold good
 rw [outs_off L h]
 obtain ⟨i, hi, e⟩ := List.getElem_of_mem (low_mem L hne)
 have h0 : off L i = 0 := by
  unfold off
  rw [List.getD, List.getElem?_eq_getElem hi, Option.getD_some, e]
  simp
 have ha : (List.range L.length).any (fun i => off L i == 0) = true := List.any_eq_true.2 ⟨i, List.mem_range.2 hi, by rw [h0]; rfl⟩
 rw [ha]
 simp
theorem good_congr {n w : Nat} {x : Int} {X Y : Nat → Nat} (h : ∀ i, i < n → X i = Y i) : good n w x X = good n w x Y := by
 have e1 : (List.range n).any (fun i => X i == 0) = (List.range n).any (fun i => Y i == 0) := by
  rw [Bool.eq_iff_iff, List.any_eq_true, List.any_eq_true]
  constructor
  ·rintro ⟨i, hi, e⟩
   exact ⟨i, hi, by rw [← h i (List.mem_range.1 hi)]; exact e⟩
  ·rintro ⟨i, hi, e⟩
   exact ⟨i, hi, by rw [h i (List.mem_range.1 hi)]; exact e⟩
 have e2 : Bt.orN n X = Bt.orN n Y := by
  have : ∀ k, k ≤ n → Bt.orN k X = Bt.orN k Y := by
   intro k
   induction k with
   | zero => intro _; rfl
   | succ k ih => intro hk; simp only [Bt.orN]; rw [ih (by omega), h k (by omega)]
  exact this n (Nat.le_refl _)
 have e3 : outs n x X = outs n x Y := List.map_congr_left fun i hi => by rw [h i (List.mem_range.1 hi)]
 unfold good Bt.wid
 rw [e1, e2, e3]
theorem outs_congr {n : Nat} {x : Int} {X Y : Nat → Nat} (h : ∀ i, i < n → X i = Y i) : outs n x X = outs n x Y := List.map_congr_left fun i hi => by rw [h i (List.mem_range.1 hi)]
theorem rdPacked_back (L : List Int) (hne : L ≠ []) (h : ∀ x ∈ L, I64 x) (r : List UInt8) : rdPacked L.length (encP L ++ r) = (0, L, r) := by
 unfold encP
 rw [if_neg hne]
 have hw := Bt.wid_64 (n := L.length) (off_lt L h)
 have hX := (Bt.wid_le L.length (off L) _).1 (Nat.le_refl _)
 have hg := good_off L hne h
 have ho := outs_off L h
 have hB := fun i hi => Bt.back (n := L.length) (X := off L) (i := i) hi (hX i hi)
 have hC := Bt.chk_pack L.length (off L) (Bt.wid L.length (off L))
 generalize Bt.wid L.length (off L) = w at hw hg hB hC ⊢
 have hsz := Bt.size_bytes (Bt.need (L.length * w)) (Bt.pk L.length (off L) w)
 generalize Bt.bytes (Bt.need (L.length * w)) (Bt.pk L.length (off L) w) = s at hB hC hsz ⊢
 have hl := h _ (low_mem L hne)
 have e : encI (low L) ++ (UInt8.ofNat w :: s.data.toList) ++ r = encI (low L) ++ (UInt8.ofNat w :: (s.data.toList ++ r)) := by simp
 obtain ⟨a1, a2, a3⟩ := read_encI (low L) hl (UInt8.ofNat w :: (s.data.toList ++ r))
 have hwn : (UInt8.ofNat w).toNat = w := by simp [UInt8.toNat_ofNat']; omega
 have hlen := Bt.length_data s
 have et : (s.data.toList ++ r).take (Bt.need (L.length * w)) = s.data.toList := by
  rw [← hsz, ← hlen]; simp
 have ed : (s.data.toList ++ r).drop (Bt.need (L.length * w)) = r := by
  rw [← hsz, ← hlen]; simp
 have es : (⟨s.data.toList.toArray⟩ : ByteArray) = s := rfl
 rw [e]
 unfold rdPacked
 rw [if_neg (by rw [a1]; simp), a3, a2]
 simp only [hwn]
 rw [if_neg (by omega), if_neg (by rw [List.length_append, hlen, hsz]; omega), et, ed, es, if_neg (by rw [hC]; simp)]
 have hc : ∀ i, i < L.length → un s w i = off L i := fun i hi => hB i hi
 rw [good_congr hc, if_pos hg, outs_congr hc, ho]
theorem rdPacked_only (n : Nat) (hn : 0 < n) (l : List UInt8) (h : (rdPacked n l).1 = 0) : l = encP (rdPacked n l).2.1 ++ (rdPacked n l).2.2 ∧ (rdPacked n l).2.1.length = n ∧ ∀ x ∈ (rdPacked n l).2.1, I64 x := by
 unfold rdPacked at h ⊢
 by_cases h1 : (num l).2.2 ≠ 0
 ·rw [if_pos h1] at h
  exact absurd h h1
 ·rw [if_neg h1] at h ⊢
  have hs := splitI (l := l) (by simpa using h1)
  cases hr : rest l with
  | nil => rw [hr] at h; cases h
  | cons b r =>
    rw [hr] at h
    simp only at h ⊢
    by_cases h2 : 64 < b.toNat
    ·rw [if_pos h2] at h; cases h
    ·rw [if_neg h2] at h ⊢
     by_cases h3 : r.length < Bt.need (n * b.toNat)
     ·rw [if_pos h3] at h; cases h
     ·rw [if_neg h3] at h ⊢
      by_cases h4 : Bt.chk ⟨(r.take (Bt.need (n * b.toNat))).toArray⟩ (n * b.toNat) ≠ 0
      ·rw [if_pos h4] at h
       exact absurd h h4
      ·rw [if_neg h4] at h ⊢
       have hC : Bt.chk ⟨(r.take (Bt.need (n * b.toNat))).toArray⟩ (n * b.toNat) = 0 := by simpa using h4
       by_cases h5 : good n b.toNat (sg l) (un ⟨(r.take (Bt.need (n * b.toNat))).toArray⟩ b.toNat) = true
       ·rw [if_pos h5]
        have hO := Bt.only hC
        have hlt : ∀ i, un ⟨(r.take (Bt.need (n * b.toNat))).toArray⟩ b.toNat i < 2 ^ b.toNat := fun i => Bt.num_lt _ _
        have hlt64 : ∀ i, un ⟨(r.take (Bt.need (n * b.toNat))).toArray⟩ b.toNat i < 2 ^ 64 := fun i => Nat.lt_of_lt_of_le (hlt i) (Nat.pow_le_pow_right (by decide) (by omega))
        have hun : (fun i => Bt.num b.toNat (fun j => Bt.bit ⟨(r.take (Bt.need (n * b.toNat))).toArray⟩ (i * b.toNat + j))) = un ⟨(r.take (Bt.need (n * b.toNat))).toArray⟩ b.toNat := rfl
        rw [hun] at hO
        unfold good at h5
        simp only [Bool.and_eq_true, beq_iff_eq] at h5
        obtain ⟨⟨_, hW⟩, hL⟩ := h5
        generalize hX : un ⟨(r.take (Bt.need (n * b.toNat))).toArray⟩ b.toNat = X at hO hlt hlt64 hW hL ⊢
        have hlen : (outs n (sg l) X).length = n := by simp [outs]
        have hne : outs n (sg l) X ≠ [] := by intro e; rw [e] at hlen; simp at hlen; omega
        have hi64 : ∀ x ∈ outs n (sg l) X, I64 x := by
         intro x hx
         obtain ⟨i, _, rfl⟩ := List.mem_map.1 hx
         exact wrap_i64 _
        have hoff : ∀ i, i < n → off (outs n (sg l) X) i = X i := by
         intro i hi
         have hg : (outs n (sg l) X)[i]? = some (wrap64 (sg l + (X i : Int))) := by simp [outs, hi]
         have hle := low_le _ _ (List.mem_of_getElem? hg)
         unfold off
         rw [List.getD, hg, Option.getD_some, hL]
         rw [hL] at hle
         have hx := hlt64 i
         have hl := sg_i64 l
         unfold I64 at hl
         unfold wrap64 at hle ⊢
         omega
        have hwid : Bt.wid n (off (outs n (sg l) X)) = b.toNat := by
         have e : Bt.orN n (off (outs n (sg l) X)) = Bt.orN n X := by
          have : ∀ k, k ≤ n → Bt.orN k (off (outs n (sg l) X)) = Bt.orN k X := by
           intro k
           induction k with
           | zero => intro _; rfl
           | succ k ih => intro hk; simp only [Bt.orN]; rw [ih (by omega), hoff k (by omega)]
          exact this n (Nat.le_refl _)
         unfold Bt.wid at hW ⊢
         rw [e]; exact hW
        have hpk : Bt.bytes (Bt.need (n * b.toNat)) (Bt.pk n (off (outs n (sg l) X)) b.toNat) = Bt.bytes (Bt.need (n * b.toNat)) (Bt.pk n X b.toNat) := by
         refine Bt.bytes_congr fun x _ => ?_
         unfold Bt.pk
         by_cases hx : x < n * b.toNat
         ·have hb0 : 0 < b.toNat := by
           rcases Nat.eq_zero_or_pos b.toNat with h0 | h0
           ·rw [h0] at hx; simp at hx
           ·exact h0
          rw [hoff (x / b.toNat) ((Nat.div_lt_iff_lt_mul hb0).2 hx)]
         ·simp [hx]
        refine ⟨?_, hlen, hi64⟩
        unfold encP
        rw [if_neg hne, hlen, hL, hwid, hpk, hO]
        have hub : UInt8.ofNat b.toNat = b := by simp
        rw [hub]
        have : encI (sg l) ++ (b :: (⟨(r.take (Bt.need (n * b.toNat))).toArray⟩ : ByteArray).data.toList) ++ r.drop (Bt.need (n * b.toNat)) = encI (sg l) ++ (b :: r) := by
         simp
        rw [this, ← hr]
        exact hs
       ·rw [if_neg h5] at h; cases h
def body (k : Nat) (L : List Int) : List UInt8 := if k = 0 then L.flatMap encI else if k = 1 then (diffs 0 L).flatMap encI else if k = 2 then (grp L).flatMap encR else encP L
def enc (k : Nat) (L : List Int) : List UInt8 := UInt8.ofNat k :: (encU L.length ++ body k L)
def rdBody (k n : Nat) (l : List UInt8) : Nat × List Int × List UInt8 :=
 if k = 0 then rdInts n l
 else if k = 1 then ((rdInts n l).1, acc 0 (rdInts n l).2.1, (rdInts n l).2.2)
 else if k = 2 then ((rdRuns n n none l).1, spread (rdRuns n n none l).2.1, (rdRuns n n none l).2.2)
 else if n = 0 then (0, [], l) else rdPacked n l
def rd (l : List UInt8) : Nat × List Int :=
 match l with
 | [] => (2, [])
 | b :: r =>
   if 3 < b.toNat then (4, [])
   else if (num r).2.2 ≠ 0 then ((num r).2.2, [])
   else if 65536 < (num r).1 then (3, [])
   else if (rdBody b.toNat (num r).1 (rest r)).1 ≠ 0 then ((rdBody b.toNat (num r).1 (rest r)).1, [])
   else if (rdBody b.toNat (num r).1 (rest r)).2.2 ≠ [] then (5, [])
   else (0, (rdBody b.toNat (num r).1 (rest r)).2.1)
theorem rdBody_back (k : Nat) (L : List Int) (h : ∀ x ∈ L, I64 x) (hl : L.length < 2 ^ 64) (r : List UInt8) : rdBody k L.length (body k L ++ r) = (0, L, r) := by
 have h0 : I64 0 := by unfold I64; omega
 unfold rdBody body
 by_cases h1 : k = 0
 ·simp only [h1, if_true]
  exact rdInts_back L h r
 ·by_cases h2 : k = 1
  ·simp only [h2, if_false, if_true, Nat.one_ne_zero]
   have := rdInts_back (diffs 0 L) (diffs_i64 L 0) r
   rw [diffs_len] at this
   rw [this]
   simp only [acc_diffs L 0 h0 h]
  ·by_cases h3 : k = 2
   ·subst h3
    simp only [if_true, if_false, show ¬ (2 : Nat) = 0 by omega, show ¬ (2 : Nat) = 1 by omega]
    have e : total (grp L) = L.length := by rw [← total_spread, spread_grp]
    have := rdRuns_back (grp L) L.length L.length none r (Nat.le_refl _) hl e (proper_grp L) (grp_i64 L h)
    rw [this]
    simp only [spread_grp]
   ·simp only [h1, h2, h3, if_false]
    by_cases hne : L = []
    ·subst hne
     simp [encP]
    ·rw [if_neg (by intro e; exact hne (List.eq_nil_of_length_eq_zero e))]
     exact rdPacked_back L hne h r
theorem rdBody_only (k n : Nat) (l : List UInt8) (h : (rdBody k n l).1 = 0) : l = body k (rdBody k n l).2.1 ++ (rdBody k n l).2.2 ∧ (rdBody k n l).2.1.length = n ∧ ∀ x ∈ (rdBody k n l).2.1, I64 x := by
 have h0 : I64 0 := by unfold I64; omega
 unfold rdBody at h ⊢
 unfold body
 by_cases h1 : k = 0
 ·simp only [h1, if_true] at h ⊢
  exact rdInts_only n l h
 ·by_cases h2 : k = 1
  ·simp only [h2, if_false, if_true, Nat.one_ne_zero] at h ⊢
   obtain ⟨e1, e2, e3⟩ := rdInts_only n l h
   exact ⟨by rw [diffs_acc _ 0 h0 e3]; exact e1, by rw [acc_len]; exact e2, acc_i64 _ 0⟩
  ·by_cases h3 : k = 2
   ·subst h3
    simp only [if_true, if_false, show ¬ (2 : Nat) = 0 by omega, show ¬ (2 : Nat) = 1 by omega] at h ⊢
    obtain ⟨e1, e2, e3, e4⟩ := rdRuns_only n n none l (Nat.le_refl _) h
    exact ⟨by rw [grp_spread _ none e3]; exact e1, by rw [total_spread]; exact e2, spread_i64 _ e4⟩
   ·simp only [h1, h2, h3, if_false] at h ⊢
    by_cases hn : n = 0
    ·subst hn
     simp [encP]
    ·rw [if_neg hn] at h ⊢
     exact rdPacked_only n (by omega) l h
theorem rd_enc (k : Nat) (hk : k ≤ 3) (L : List Int) (h : ∀ x ∈ L, I64 x) (hl : L.length ≤ 65536) : rd (enc k L) = (0, L) := by
 have hkn : (UInt8.ofNat k).toNat = k := by simp [UInt8.toNat_ofNat']; omega
 obtain ⟨a1, a2, a3⟩ := read_encU L.length (show U64 L.length by unfold U64; omega) (body k L)
 have hb := rdBody_back k L h (by omega) []
 rw [List.append_nil] at hb
 unfold rd enc
 simp only [hkn]
 rw [if_neg (by omega), if_neg (by rw [a1]; simp), a2, if_neg (by omega), a3, hb]
 simp
theorem enc_rd (l : List UInt8) (h : (rd l).1 = 0) : ∃ b r, l = b :: r ∧ b.toNat ≤ 3 ∧ enc b.toNat (rd l).2 = l ∧ (rd l).2.length ≤ 65536 ∧ ∀ x ∈ (rd l).2, I64 x := by
 unfold rd at h ⊢
 cases l with
 | nil => cases h
 | cons b r =>
   simp only at h ⊢
   refine ⟨b, r, rfl, ?_⟩
   by_cases h1 : 3 < b.toNat
   ·rw [if_pos h1] at h; cases h
   ·rw [if_neg h1] at h ⊢
    by_cases h2 : (num r).2.2 ≠ 0
    ·rw [if_pos h2] at h
     exact absurd h h2
    ·rw [if_neg h2] at h ⊢
     by_cases h3 : 65536 < (num r).1
     ·rw [if_pos h3] at h; cases h
     ·rw [if_neg h3] at h ⊢
      by_cases h4 : (rdBody b.toNat (num r).1 (rest r)).1 ≠ 0
      ·rw [if_pos h4] at h
       exact absurd h h4
      ·rw [if_neg h4] at h ⊢
       by_cases h5 : (rdBody b.toNat (num r).1 (rest r)).2.2 ≠ []
       ·rw [if_pos h5] at h; cases h
       ·rw [if_neg h5]
        obtain ⟨e1, e2, e3⟩ := rdBody_only b.toNat (num r).1 (rest r) (by simpa using h4)
        have e5 : (rdBody b.toNat (num r).1 (rest r)).2.2 = [] := by simpa using h5
        rw [e5, List.append_nil] at e1
        refine ⟨by omega, ?_, by rw [e2]; omega, e3⟩
        unfold enc
        rw [e2, ← e1, ← splitU (by simpa using h2)]
        simp
end Go.Proofs.YtbelkhkllneifaaGreatDoor.Ig
