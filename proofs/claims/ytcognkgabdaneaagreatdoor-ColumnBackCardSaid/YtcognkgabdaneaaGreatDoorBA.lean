/-
  The plain mathematics of package bits: numbers out of bits, bits out of bytes, packed numbers. No program.
  Contracts of package bits: its small functions; what 'put' does to bytes that a call made.
  Contracts of package bits: 'get', 'check' and the library's Len64.
  Contracts of package bits: Width, Truths, Pack.
  Contracts of package bits: Pack whatever comes in; Untruths, Unpack.
-/
import Derived.Laws.MathBits
import Derived.Laws.BitsLemmas
import Derived.Test.YtcognkgabdaneaaGreatDoorRows
import Derived.WalkKit
import Derived.WalkSpells
import Derived.WalkLawsBesides
import Derived.Deep.OwnRows
import Derived.Below
import Derived.Lib.Hide
import Derived.StillTailTactics
import Derived.Lib.BitFns
namespace Go.Proofs.YtcognkgabdaneaaGreatDoor.Bt
open Go
/-- The number whose bit j is g j, of w bits. -/
def num : Nat → (Nat → Bool) → Nat
  | 0, _ => 0
  | w + 1, g => num w g + (g w).toNat * 2 ^ w
theorem num_lt (w : Nat) (g : Nat → Bool) : num w g < 2 ^ w := by
  induction w with
  | zero => simp [num]
  | succ w ih =>
    have : (g w).toNat * 2 ^ w ≤ 2 ^ w := by cases g w <;> simp
    rw [Nat.pow_succ]
    unfold num
    omega
theorem testBit_num (w : Nat) (g : Nat → Bool) (j : Nat) : (num w g).testBit j = (decide (j < w) && g j) := by
  induction w with
  | zero => simp [num]
  | succ w ih =>
    have e : num (w + 1) g = 2 ^ w * (g w).toNat + num w g := by
      show num w g + (g w).toNat * 2 ^ w = _
      rw [Nat.mul_comm, Nat.add_comm]
    rw [e, Nat.testBit_two_pow_mul_add _ (num_lt w g), ih]
    by_cases h : j < w
    · simp [h, Nat.lt_succ_of_lt h]
    · rw [if_neg h]
      by_cases h2 : j = w
      · subst h2
        cases g j <;> simp
      · have h3 : ¬ j < w + 1 := by omega
        have h4 : (g w).toNat < 2 ^ (j - w) := Nat.lt_of_le_of_lt (Bool.toNat_le _) (Nat.one_lt_two_pow (by omega))
        rw [Nat.testBit_lt_two_pow h4]
        simp [h3]
theorem num_is {w n : Nat} {g : Nat → Bool} (hn : n < 2 ^ w) (h : ∀ j, j < w → n.testBit j = g j) : num w g = n := by
  refine Nat.eq_of_testBit_eq fun j => ?_
  rw [testBit_num]
  by_cases hj : j < w
  · rw [h j hj]; simp [hj]
  · rw [Nat.testBit_lt_two_pow (Nat.lt_of_lt_of_le hn (Nat.pow_le_pow_right (by decide) (by omega)))]
    simp [hj]
theorem num_congr {w : Nat} {g h : Nat → Bool} (e : ∀ j, j < w → g j = h j) : num w g = num w h := by
  refine num_is (num_lt w h) fun j hj => ?_
  rw [testBit_num, e j hj]
  simp [hj]
theorem num_add {w : Nat} {g : Nat → Bool} {j : Nat} (hj : j < w) (hg : g j = false) : num w g + 2 ^ j = num w (fun i => g i || decide (i = j)) := by
  induction w with
  | zero => omega
  | succ w ih =>
    unfold num
    by_cases e : j = w
    · subst e
      have : num j g = num j (fun i => g i || decide (i = j)) := num_congr fun i hi => by
        have : i ≠ j := by omega
        simp [this]
      rw [← this, hg]
      simp
    · rw [← ih (by omega)]
      have : ¬ w = j := by omega
      simp [this]
      omega
/-- A byte of a stream of bits. -/
def oct (F : Nat → Bool) (i : Nat) : Nat := num 8 (fun j => F (8 * i + j))
theorem oct_lt (F : Nat → Bool) (i : Nat) : oct F i < 256 := num_lt 8 _
theorem oct_congr {F G : Nat → Bool} {i : Nat} (e : ∀ j, j < 8 → F (8 * i + j) = G (8 * i + j)) : oct F i = oct G i := num_congr e
theorem or_oct (g : Nat → Bool) (n k : Nat) : (num 8 g ||| (n * 2 ^ k % 256)) = num 8 (fun j => g j || (decide (k ≤ j) && n.testBit (j - k))) := by
  refine (num_is (Nat.or_lt_two_pow (n := 8) (num_lt 8 _) (Nat.mod_lt _ (by decide))) fun j hj => ?_).symm
  rw [Nat.testBit_or, testBit_num, Nat.testBit_mod_two_pow, Nat.testBit_mul_two_pow]
  simp [hj]
/-- What a round of 'put' makes of the bits. -/
def laid (F : Nat → Bool) (at_ n : Nat) (x : Nat) : Bool := F x || (decide (x / 8 = at_ / 8) && (decide (at_ ≤ x) && n.testBit (x - at_)))
theorem laid_here (F : Nat → Bool) (at_ n : Nat) : (oct F (at_ / 8) ||| (n * 2 ^ (at_ % 8) % 256)) = oct (laid F at_ n) (at_ / 8) := by
  unfold oct
  rw [or_oct]
  refine num_congr fun j hj => ?_
  unfold laid
  have e1 : (8 * (at_ / 8) + j) / 8 = at_ / 8 := by omega
  have e2 : decide (at_ ≤ 8 * (at_ / 8) + j) = decide (at_ % 8 ≤ j) := by
    rw [decide_eq_decide]; omega
  have e3 : 8 * (at_ / 8) + j - at_ = j - at_ % 8 := by omega
  rw [e1, e2, e3]
  simp
theorem laid_far (F : Nat → Bool) (at_ n i : Nat) (h : i ≠ at_ / 8) : oct F i = oct (laid F at_ n) i := by
  refine oct_congr fun j hj => ?_
  unfold laid
  have e1 : ¬ (8 * i + j) / 8 = at_ / 8 := by omega
  simp [e1]
/-- What 'put' makes of the bits. -/
def putF (F : Nat → Bool) (at_ n : Nat) (x : Nat) : Bool := F x || (decide (at_ ≤ x) && n.testBit (x - at_))
theorem putF_next (F : Nat → Bool) (at_ n : Nat) (x : Nat) : putF F at_ n x = putF (laid F at_ n) (at_ + (8 - at_ % 8)) (n / 2 ^ (8 - at_ % 8)) x := by
  unfold putF laid
  rw [Nat.testBit_div_two_pow]
  by_cases h1 : at_ ≤ x
  · by_cases h2 : x / 8 = at_ / 8
    · have h3 : ¬ at_ + (8 - at_ % 8) ≤ x := by omega
      simp [h1, h2, h3]
    · have h3 : at_ + (8 - at_ % 8) ≤ x := by omega
      have e : x - (at_ + (8 - at_ % 8)) + (8 - at_ % 8) = x - at_ := by omega
      simp [h1, h2, h3, e]
  · have h3 : ¬ at_ + (8 - at_ % 8) ≤ x := by omega
    simp [h1, h3]
theorem putF_zero (F : Nat → Bool) (at_ : Nat) : putF F at_ 0 = F := by
  funext x
  simp [putF]
theorem put_room {sz at_ n : Nat} (hn : n < 2 ^ (8 * sz - at_)) (h0 : 0 < n) : at_ < 8 * sz := by
  rcases Nat.lt_or_ge at_ (8 * sz) with h | h
  · exact h
  · rw [Nat.sub_eq_zero_of_le h] at hn
    omega
theorem put_less {sz at_ n : Nat} (hn : n < 2 ^ (8 * sz - at_)) (h0 : 0 < n) : n / 2 ^ (8 - at_ % 8) < 2 ^ (8 * sz - (at_ + (8 - at_ % 8))) := by
  have hr := put_room hn h0
  rw [Nat.div_lt_iff_lt_mul (Nat.two_pow_pos _), ← Nat.pow_add]
  have e : 8 * sz - (at_ + (8 - at_ % 8)) + (8 - at_ % 8) = 8 * sz - at_ := by omega
  rw [e]
  exact hn
theorem put_down {n k : Nat} (h0 : 0 < n) : n / 2 ^ (8 - k % 8) < n := Nat.div_lt_self h0 (Nat.one_lt_two_pow (by omega))
/-- A bit of bytes. -/
def bit (s : ByteArray) (k : Nat) : Bool := (s.data.toList.getD (k / 8) 0).toNat.testBit (k % 8)
theorem length_data (s : ByteArray) : s.data.toList.length = s.size := by rw [Array.length_toList]; rfl
theorem at_getD (s : ByteArray) (k : Nat) (h : k < s.size) : s[k] = s.data.toList.getD k 0 := by
  have h2 : k < s.data.toList.length := by rw [length_data]; exact h
  rw [List.getD, List.getElem?_eq_getElem h2]; rfl
theorem bit_at (s : ByteArray) (k : Nat) (h : k / 8 < s.size) : bit s k = s[k / 8].toNat.testBit (k % 8) := by rw [bit, at_getD s _ h]
theorem bit_out (s : ByteArray) (k : Nat) (h : s.size ≤ k / 8) : bit s k = false := by
  unfold bit
  rw [List.getD, List.getElem?_eq_none (by rw [length_data]; exact h)]
  simp
/-- The bytes of a stream of bits. -/
def bytes (sz : Nat) (F : Nat → Bool) : ByteArray := ⟨((List.range sz).map fun i => UInt8.ofNat (oct F i)).toArray⟩
theorem size_bytes (sz : Nat) (F : Nat → Bool) : (bytes sz F).size = sz := by
  rw [← length_data]; simp [bytes]
theorem toNat_oct (F : Nat → Bool) (i : Nat) : (UInt8.ofNat (oct F i)).toNat = oct F i := by
  have := oct_lt F i
  simp [UInt8.toNat_ofNat']; omega
theorem bit_bytes (sz : Nat) (F : Nat → Bool) (k : Nat) : bit (bytes sz F) k = (decide (k < 8 * sz) && F k) := by
  by_cases h : k < 8 * sz
  · have h2 : k / 8 < sz := by omega
    unfold bit bytes
    rw [List.getD, List.getElem?_map, List.getElem?_range h2]
    show (UInt8.ofNat (oct F (k / 8))).toNat.testBit (k % 8) = _
    rw [toNat_oct, oct, testBit_num]
    have e : 8 * (k / 8) + k % 8 = k := by omega
    have e2 : k % 8 < 8 := by omega
    simp [h, e, e2]
  · rw [bit_out _ _ (by rw [size_bytes]; omega)]
    simp [h]
theorem bytes_congr {sz : Nat} {F G : Nat → Bool} (e : ∀ x, x < 8 * sz → F x = G x) : bytes sz F = bytes sz G := by
  unfold bytes
  congr 2
  refine List.map_congr_left fun i hi => ?_
  rw [List.mem_range] at hi
  rw [oct_congr fun j hj => e _ (by omega)]
theorem bytes_bit (s : ByteArray) : bytes s.size (bit s) = s := by
  unfold bytes
  have e : ((List.range s.size).map fun i => UInt8.ofNat (oct (bit s) i)) = s.data.toList := by
    refine List.ext_getElem (by rw [length_data]; simp) fun i h1 h2 => ?_
    have h3 : i < s.size := by simpa using h1
    rw [List.getElem_map, List.getElem_range]
    have e2 : oct (bit s) i = (s.data.toList[i]).toNat := by
      refine num_is (s.data.toList[i]).toNat_lt fun j hj => ?_
      have e3 : (8 * i + j) / 8 = i := by omega
      have e4 : (8 * i + j) % 8 = j := by omega
      unfold bit
      rw [e3, e4, List.getD, List.getElem?_eq_getElem h2]
      rfl
    rw [e2]
    simp
  rw [e]
/-- Bytes are just their bits. -/
theorem bytes_of {s : ByteArray} {sz : Nat} {F : Nat → Bool} (hs : s.size = sz) (e : ∀ x, x < 8 * sz → F x = bit s x) : bytes sz F = s := by
  subst hs
  rw [bytes_congr e, bytes_bit]
/-- How many bytes so many bits need. -/
def need (n : Nat) : Nat := (n + 7) / 8
theorem need_room (n : Nat) : n ≤ 8 * need n ∧ 8 * need n < n + 8 := by unfold need; omega
/-- An unused bit of the last byte is not 0. -/
def dirty (s : ByteArray) (n : Nat) : Bool := (List.range (8 * need n)).any fun k => decide (n ≤ k) && bit s k
theorem dirty_iff (s : ByteArray) (n : Nat) : dirty s n = true ↔ ∃ k, k < 8 * need n ∧ n ≤ k ∧ bit s k = true := by
  unfold dirty
  rw [List.any_eq_true]
  constructor
  · rintro ⟨k, h1, h2⟩
    rw [List.mem_range] at h1
    simp at h2
    exact ⟨k, h1, h2.1, h2.2⟩
  · rintro ⟨k, h1, h2, h3⟩
    exact ⟨k, List.mem_range.2 h1, by simp [h2, h3]⟩
theorem dirty_none (s : ByteArray) (n : Nat) (h : n % 8 = 0) : dirty s n = false := by
  rw [Bool.eq_false_iff]
  intro e
  obtain ⟨k, h1, h2, _⟩ := (dirty_iff s n).1 e
  unfold need at h1
  omega
theorem clean {s : ByteArray} {n k : Nat} (h : dirty s n = false) (h1 : k < 8 * need n) (h2 : n ≤ k) : bit s k = false := by
  rw [Bool.eq_false_iff]
  intro e
  rw [(dirty_iff s n).2 ⟨k, h1, h2, e⟩] at h
  cases h
theorem dirty_last (s : ByteArray) (n : Nat) (h : 0 < n % 8) (hs : s.size = need n) (hl : s.size - 1 < s.size) : dirty s n = decide (s[s.size - 1].toNat / 2 ^ (n % 8) ≠ 0) := by
  have hlast : s.size - 1 = n / 8 := by unfold need at hs; omega
  rw [Bool.eq_iff_iff, dirty_iff, decide_eq_true_iff]
  have hb := s[s.size - 1].toNat_lt
  constructor
  · rintro ⟨k, h1, h2, h3⟩ h0
    have hk : k / 8 = n / 8 := by unfold need at h1; omega
    unfold bit at h3
    rw [hk, ← hlast, ← at_getD s _ hl] at h3
    have h5 : (s[s.size - 1].toNat / 2 ^ (n % 8)).testBit (k % 8 - n % 8) = true := by
      rw [Nat.testBit_div_two_pow]
      have : k % 8 - n % 8 + n % 8 = k % 8 := by omega
      rw [this]
      exact h3
    rw [h0] at h5
    simp at h5
  · intro h0
    obtain ⟨j, hj⟩ := Nat.exists_testBit_of_ne_zero h0
    rw [Nat.testBit_div_two_pow] at hj
    have hj8 : j + n % 8 < 8 := by
      rcases Nat.lt_or_ge (j + n % 8) 8 with h | h
      · exact h
      · rw [Nat.testBit_lt_two_pow (Nat.lt_of_lt_of_le (by simpa using hb) (Nat.pow_le_pow_right (n := 2) (by decide) h))] at hj
        cases hj
    refine ⟨8 * (n / 8) + (j + n % 8), by unfold need; omega, by omega, ?_⟩
    unfold bit
    have e1 : (8 * (n / 8) + (j + n % 8)) / 8 = n / 8 := by omega
    have e2 : (8 * (n / 8) + (j + n % 8)) % 8 = j + n % 8 := by omega
    rw [e1, e2, ← hlast, ← at_getD s _ hl]
    exact hj
/-- Which error bytes have, as so many bits. -/
def chk (s : ByteArray) (n : Nat) : Nat := if s.size < need n then 2 else if need n < s.size then 3 else if dirty s n = true then 5 else 0
theorem chk_ok {s : ByteArray} {n : Nat} (h : chk s n = 0) : s.size = need n ∧ dirty s n = false := by
  unfold chk at h
  split at h
  · cases h
  · split at h
    · cases h
    · split at h
      · cases h
      · rename_i h1 h2 h3
        exact ⟨by omega, by simpa using h3⟩
theorem chk_is {s : ByteArray} {n : Nat} (h : s.size = need n) (hd : dirty s n = false) : chk s n = 0 := by
  unfold chk
  rw [if_neg (by omega), if_neg (by omega), hd]
  rfl
/-- What 'get' has of the bits so far. -/
def Got (s : ByteArray) (at_ d n : Nat) : Prop := n < 2 ^ 64 ∧ ∀ j, n.testBit j = (decide (j < d) && (decide (j < 64) && bit s (at_ + j)))
theorem Got.zero (s : ByteArray) (at_ : Nat) : Got s at_ 0 0 := ⟨by decide, fun j => by simp⟩
theorem Got.next {s : ByteArray} {at_ d n : Nat} (h : Got s at_ d n) (hi : (at_ + d) / 8 < s.size) : Got s at_ (d + (8 - (at_ + d) % 8)) (n ||| (s[(at_ + d) / 8].toNat / 2 ^ ((at_ + d) % 8) * 2 ^ d % 2 ^ 64)) := by
  refine ⟨Nat.or_lt_two_pow h.1 (Nat.mod_lt _ (Nat.two_pow_pos _)), fun j => ?_⟩
  have hb := s[(at_ + d) / 8].toNat_lt
  rw [Nat.testBit_or, h.2 j, Nat.testBit_mod_two_pow, Nat.testBit_mul_two_pow, Nat.testBit_div_two_pow]
  by_cases h64 : j < 64
  · by_cases h1 : j < d
    · have h2 : j < d + (8 - (at_ + d) % 8) := by omega
      have h3 : ¬ d ≤ j := by omega
      simp [h64, h1, h2, h3]
    · have h3 : d ≤ j := by omega
      by_cases h2 : j < d + (8 - (at_ + d) % 8)
      · have e1 : (at_ + j) / 8 = (at_ + d) / 8 := by omega
        have e2 : (at_ + j) % 8 = j - d + (at_ + d) % 8 := by omega
        have e3 : bit s (at_ + j) = s[(at_ + d) / 8].toNat.testBit (j - d + (at_ + d) % 8) := by
          unfold bit
          rw [e1, e2, ← at_getD s _ hi]
        simp [h64, h1, h2, h3, e3]
      · have e : s[(at_ + d) / 8].toNat.testBit (j - d + (at_ + d) % 8) = false :=
          Nat.testBit_lt_two_pow (Nat.lt_of_lt_of_le (by simpa using hb) (Nat.pow_le_pow_right (n := 2) (by decide) (by omega : 8 ≤ j - d + (at_ + d) % 8)))
        simp [h64, h1, h2, h3, e]
  · simp [h64]
theorem Got.last {s : ByteArray} {at_ d n w : Nat} (h : Got s at_ d n) (hd : w ≤ d) (hw : w ≤ 64) : n &&& (2 ^ w - 1) = num w (fun j => bit s (at_ + j)) := by
  refine (num_is (Nat.and_lt_two_pow _ (Nat.sub_lt (Nat.two_pow_pos _) (by decide))) fun j hj => ?_).symm
  rw [Nat.testBit_and, h.2 j, Nat.testBit_two_pow_sub_one]
  have h1 : j < d := by omega
  have h2 : j < 64 := by omega
  simp [hj, h1, h2]
/-- All numbers' bits together. -/
def orN : Nat → (Nat → Nat) → Nat
  | 0, _ => 0
  | n + 1, X => orN n X ||| X n
theorem orN_lt (n : Nat) (X : Nat → Nat) (w : Nat) : orN n X < 2 ^ w ↔ ∀ i, i < n → X i < 2 ^ w := by
  induction n with
  | zero => simp [orN, Nat.two_pow_pos]
  | succ n ih =>
    constructor
    · intro h i hi
      have h1 : orN n X ≤ orN n X ||| X n := Nat.left_le_or
      have h2 : X n ≤ orN n X ||| X n := Nat.right_le_or
      unfold orN at h
      rcases Nat.lt_or_ge i n with h3 | h3
      · exact ih.1 (by omega) i h3
      · obtain rfl : i = n := by omega
        omega
    · intro h
      exact Nat.or_lt_two_pow (ih.2 fun i hi => h i (by omega)) (h n (by omega))
theorem bitLen_le (n w : Nat) : bitLen n ≤ w ↔ n < 2 ^ w := by
  have h := bitLen_spec n
  constructor
  · intro hw
    exact Nat.lt_of_lt_of_le h.1 (Nat.pow_le_pow_right (by decide) hw)
  · intro hw
    by_cases h0 : n = 0
    · simp [bitLen, h0]
    · rcases Nat.lt_or_ge w (bitLen n) with h1 | h1
      · have h2 := h.2 h0
        have h3 : 2 ^ w ≤ 2 ^ (bitLen n - 1) := Nat.pow_le_pow_right (by decide) (by omega)
        omega
      · exact h1
/-- The width of numbers. -/
def wid (n : Nat) (X : Nat → Nat) : Nat := bitLen (orN n X)
theorem wid_le (n : Nat) (X : Nat → Nat) (w : Nat) : wid n X ≤ w ↔ ∀ i, i < n → X i < 2 ^ w := by rw [wid, bitLen_le, orN_lt]
theorem wid_succ (n : Nat) (X : Nat → Nat) : wid (n + 1) X = max (wid n X) (bitLen (X n)) := by
  refine Nat.le_antisymm ?_ ?_
  · rw [wid_le]
    intro i hi
    rcases Nat.lt_or_ge i n with h | h
    · exact (wid_le n X _).1 (Nat.le_max_left _ _) i h
    · obtain rfl : i = n := by omega
      exact (bitLen_le _ _).1 (Nat.le_max_right _ _)
  · have h := (wid_le (n + 1) X _).1 (Nat.le_refl _)
    refine Nat.max_le.2 ⟨(wid_le n X _).2 fun i hi => h i (by omega), (bitLen_le _ _).2 (h n (by omega))⟩
theorem wid_64 {n : Nat} {X : Nat → Nat} (h : ∀ i, X i < 2 ^ 64) : wid n X ≤ 64 := (wid_le _ _ _).2 fun i _ => h i
/-- The bits of n numbers of w bits. -/
def pk (n : Nat) (X : Nat → Nat) (w : Nat) (x : Nat) : Bool := decide (x < n * w) && (X (x / w)).testBit (x % w)
theorem div_mid {w i j : Nat} (hj : j < w) : (i * w + j) / w = i ∧ (i * w + j) % w = j := by
  constructor
  · rw [Nat.mul_comm, Nat.mul_add_div (by omega), Nat.div_eq_of_lt hj]; rfl
  · rw [Nat.mul_comm, Nat.mul_add_mod, Nat.mod_eq_of_lt hj]
theorem pk_put (X : Nat → Nat) (w i : Nat) (h : X i < 2 ^ w) : pk (i + 1) X w = putF (pk i X w) (i * w) (X i) := by
  funext x
  unfold putF pk
  have e : (i + 1) * w = i * w + w := Nat.succ_mul i w
  by_cases h1 : x < i * w
  · have h2 : x < (i + 1) * w := by omega
    have h3 : ¬ i * w ≤ x := by omega
    simp [h1, h2, h3]
  · have h3 : i * w ≤ x := by omega
    by_cases h2 : x < (i + 1) * w
    · obtain ⟨d, m⟩ := div_mid (i := i) (j := x - i * w) (w := w) (by omega)
      have ex : i * w + (x - i * w) = x := by omega
      rw [ex] at d m
      simp [h1, h2, h3, d, m]
    · have : (X i).testBit (x - i * w) = false := Nat.testBit_lt_two_pow (Nat.lt_of_lt_of_le h (Nat.pow_le_pow_right (by decide) (by omega)))
      simp [h1, h2, h3, this]
theorem pk_zero (X : Nat → Nat) (w : Nat) : pk 0 X w = fun _ => false := by
  funext x
  simp [pk]
theorem pk_at {n : Nat} (X : Nat → Nat) (w i j : Nat) (hi : i < n) (hj : j < w) : pk n X w (i * w + j) = (X i).testBit j := by
  obtain ⟨d, m⟩ := div_mid (i := i) hj
  have h : i * w + j < n * w := by
    have : (i + 1) * w ≤ n * w := Nat.mul_le_mul_right _ hi
    rw [Nat.succ_mul] at this
    omega
  unfold pk
  rw [d, m]
  simp [h]
/-- Numbers out of the bits of numbers. -/
theorem num_pk {n : Nat} {X : Nat → Nat} {w i : Nat} (hi : i < n) (h : X i < 2 ^ w) : num w (fun j => pk n X w (i * w + j)) = X i := num_is h fun j hj => (pk_at X w i j hi hj).symm
theorem mid_lt {n w i j : Nat} (hi : i < n) (hj : j < w) : i * w + j < n * w := by
  have : (i + 1) * w ≤ n * w := Nat.mul_le_mul_right _ hi
  rw [Nat.succ_mul] at this
  omega
/-- Packed and unpacked again. -/
theorem back {n : Nat} {X : Nat → Nat} {w i : Nat} (hi : i < n) (h : X i < 2 ^ w) : num w (fun j => bit (bytes (need (n * w)) (pk n X w)) (i * w + j)) = X i := by
  rw [← num_pk hi h]
  refine num_congr fun j hj => ?_
  have h1 := mid_lt hi hj
  have h2 := (need_room (n * w)).1
  have h3 : i * w + j < 8 * need (n * w) := by omega
  rw [bit_bytes]
  simp [h3]
theorem chk_pack (n : Nat) (X : Nat → Nat) (w : Nat) : chk (bytes (need (n * w)) (pk n X w)) (n * w) = 0 := by
  refine chk_is (size_bytes _ _) ?_
  rw [Bool.eq_false_iff]
  intro e
  obtain ⟨k, h1, h2, h3⟩ := (dirty_iff _ _).1 e
  rw [bit_bytes] at h3
  have : ¬ k < n * w := by omega
  simp [pk, this] at h3
/-- Unpacked and packed again. -/
theorem only {s : ByteArray} {n w : Nat} (h : chk s (n * w) = 0) : bytes (need (n * w)) (pk n (fun i => num w (fun j => bit s (i * w + j))) w) = s := by
  obtain ⟨hs, hd⟩ := chk_ok h
  refine bytes_of hs fun x hx => ?_
  unfold pk
  by_cases h1 : x < n * w
  · have hw : 0 < w := by
      rcases Nat.eq_zero_or_pos w with h0 | h0
      · subst h0; simp at h1
      · exact h0
    have h2 : x % w < w := Nat.mod_lt _ hw
    have e : x / w * w + x % w = x := by rw [Nat.mul_comm]; exact Nat.div_add_mod x w
    simp [h1, testBit_num, h2, e]
  · rw [clean hd hx (by omega)]
    simp [h1]
/-- The bits of truths. -/
def tr (n : Nat) (T : Nat → Bool) (x : Nat) : Bool := decide (x < n) && T x
theorem chk_truths (n : Nat) (T : Nat → Bool) : chk (bytes (need n) (tr n T)) n = 0 := by
  refine chk_is (size_bytes _ _) ?_
  rw [Bool.eq_false_iff]
  intro e
  obtain ⟨k, h1, h2, h3⟩ := (dirty_iff _ _).1 e
  rw [bit_bytes] at h3
  have : ¬ k < n := by omega
  simp [tr, this] at h3
theorem bit_truths {n : Nat} (T : Nat → Bool) {i : Nat} (h : i < n) : bit (bytes (need n) (tr n T)) i = T i := by
  rw [bit_bytes]
  have := (need_room n).1
  have h2 : i < 8 * need n := by omega
  simp [tr, h, h2]
theorem tr_zero (T : Nat → Bool) : tr 0 T = fun _ => false := by
  funext x
  simp [tr]
theorem tr_put (T : Nat → Bool) (i : Nat) (h : T i = true) : tr (i + 1) T = putF (tr i T) i 1 := by
  funext x
  unfold tr putF
  by_cases h1 : x < i
  · have : ¬ i ≤ x := by omega
    have h2 : x < i + 1 := by omega
    simp [h1, h2, this]
  · by_cases h2 : x = i
    · subst h2
      simp [h]
    · have h3 : ¬ x < i + 1 := by omega
      have h4 : i ≤ x := by omega
      have h5 : (1 : Nat).testBit (x - i) = false := Nat.testBit_lt_two_pow (x := 1) (Nat.one_lt_two_pow (by omega))
      simp [h1, h3, h4, h5]
theorem tr_skip (T : Nat → Bool) (i : Nat) (h : T i = false) : tr (i + 1) T = tr i T := by
  funext x
  unfold tr
  by_cases h1 : x < i
  · have h2 : x < i + 1 := by omega
    simp [h1, h2]
  · by_cases h2 : x = i
    · subst h2
      simp [h]
    · have h3 : ¬ x < i + 1 := by omega
      simp [h1, h3]
/-- The document's way to set a bit. -/
theorem tr_add (T : Nat → Bool) (i : Nat) (h : T i = true) : oct (tr i T) (i / 8) + 2 ^ (i % 8) = oct (tr (i + 1) T) (i / 8) := by
  unfold oct
  rw [num_add (by omega) (by unfold tr; have : ¬ 8 * (i / 8) + i % 8 < i := by omega
                             simp [this])]
  refine num_congr fun j hj => ?_
  unfold tr
  by_cases h1 : j = i % 8
  · subst h1
    have e : 8 * (i / 8) + i % 8 = i := by omega
    simp [e, h]
  · by_cases h2 : 8 * (i / 8) + j < i
    · have h3 : 8 * (i / 8) + j < i + 1 := by omega
      simp [h1, h2, h3]
    · have h3 : ¬ 8 * (i / 8) + j < i + 1 := by omega
      simp [h1, h2, h3]
theorem tr_far (T : Nat → Bool) (i k : Nat) (h : k ≠ i / 8) : oct (tr i T) k = oct (tr (i + 1) T) k := by
  refine oct_congr fun j hj => ?_
  unfold tr
  have : decide (8 * k + j < i) = decide (8 * k + j < i + 1) := by rw [decide_eq_decide]; omega
  rw [this]
/-- The document's packed numbers are truths, one by one. -/
theorem pk_tr (n : Nat) (X : Nat → Nat) (w : Nat) : tr (n * w) (fun x => (X (x / w)).testBit (x % w)) = pk n X w := rfl
end Go.Proofs.YtcognkgabdaneaaGreatDoor.Bt

namespace Go.Proofs.YtcognkgabdaneaaGreatDoor
open Go.RowKit
/-- A row of bytes that a call made: its bits. -/
def Bt.Row (w : World) (g sz : Nat) (F : Nat → Bool) : Prop := w.rowIs g 5 sz (fun i => .int .u8 ((Bt.oct F i : Nat) : Int))
set_option maxRecDepth 100000 in
theorem Bt.Row.string {w : World} {g sz c : Nat} {F : Nat → Bool} (h : Bt.Row w g sz F) : (convert 47 9 (.slice (some ⟨g, 0, none⟩) sz c)).run Tryz.prog w = .ok (.string (Bt.bytes sz F)) w := by
  have := run_convert_bytes_arg (P := Tryz.prog) w 47 _ Tryz.underlying47 Tryz.underlying5 g 0 sz c ((List.range sz).map fun i => ((Bt.oct F i : Nat) : Int)) (by simp) (fun i hi => by
    have hc := h.cell hi
    have ea : (⟨g, 0 + i, none⟩ : Addr) = ⟨g, i, none⟩ := by rw [Nat.zero_add]
    rw [ea, hc]
    simp [List.getD, hi]) 9 Tryz.underlying9
  rw [this]
  have e : strOfNums ((List.range sz).map fun i => ((Bt.oct F i : Nat) : Int)) = Bt.bytes sz F := by
    unfold strOfNums Bt.bytes
    congr 1
    rw [List.map_map]
    rfl
  rw [e]
theorem Bt.by_refl (w : World) (r : Option Nat) : w.grownBy w r := ⟨rfl, rfl, rfl, Nat.le_refl _, fun _ _ _ => rfl⟩
theorem Bt.by_trans {a b c : World} {r : Option Nat} (h : a.grownBy b r) (k : b.grownBy c r) : a.grownBy c r :=
  ⟨k.os.trans h.os, k.tape.trans h.tape, k.output.trans h.output, Nat.le_trans h.size k.size, fun i hi hn => (k.block i (Nat.lt_of_lt_of_le hi h.size) hn).trans (h.block i hi hn)⟩
theorem Bt.by_set (w : World) (b o : Nat) (u : Value) : w.grownBy (w.setCell ⟨b, o, none⟩ u) (some b) :=
  ⟨rfl, rfl, rfl, by simp [World.setCell], fun k _ hk => Below.heap_setCell _ _ _ _ (fun e => hk (by rw [e]))⟩
set_option maxHeartbeats 400000 in
theorem Bt.size_c (n : Nat) (hn : n ≤ 4611686018427387904) (w : World) :
    Calls Tryz.prog 37 #[.int .i64 n] w fun e w' => e = .returned (.int .i64 (Bt.need n : Nat)) ∧ w' = w := by
  have he : ((Bt.need n : Nat) : Int) = ((n : Int) + 7) / 8 := by unfold Bt.need; omega
  rw [he]
  go_enter Tryz.func37, Tryz.ntmps37
  go_wp2
  go_ret
  exact ⟨rfl, rfl⟩
set_option maxHeartbeats 400000 in
theorem Bt.rightCount_c (n : Int) (w : World) :
    Calls Tryz.prog 65 #[.int .i64 n] w fun e w' => e = .returned (.bool (decide (0 ≤ n ∧ n ≤ 65536))) ∧ w' = w := by
  by_cases h1 : 0 ≤ n
  · by_cases h2 : n ≤ 65536
    · rw [decide_eq_true ⟨h1, h2⟩]
      go_enter Tryz.func65, Tryz.ntmps65
      go_wp2
      go_ret
      exact ⟨rfl, rfl⟩
    · rw [decide_eq_false (by omega)]
      go_enter Tryz.func65, Tryz.ntmps65
      go_wp2
      go_ret
      exact ⟨rfl, rfl⟩
  · rw [decide_eq_false (by omega)]
    go_enter Tryz.func65, Tryz.ntmps65
    go_wp2
    go_ret
    exact ⟨rfl, rfl⟩
set_option maxHeartbeats 400000 in
theorem Bt.rightWidth_c (n : Int) (w : World) :
    Calls Tryz.prog 146 #[.int .i64 n] w fun e w' => e = .returned (.bool (decide (0 ≤ n ∧ n ≤ 64))) ∧ w' = w := by
  by_cases h1 : 0 ≤ n
  · by_cases h2 : n ≤ 64
    · rw [decide_eq_true ⟨h1, h2⟩]
      go_enter Tryz.func146, Tryz.ntmps146
      go_wp2
      go_ret
      exact ⟨rfl, rfl⟩
    · rw [decide_eq_false (by omega)]
      go_enter Tryz.func146, Tryz.ntmps146
      go_wp2
      go_ret
      exact ⟨rfl, rfl⟩
  · rw [decide_eq_false (by omega)]
    go_enter Tryz.func146, Tryz.ntmps146
    go_wp2
    go_ret
    exact ⟨rfl, rfl⟩
/-- What 'put' leaves. -/
def Bt.Put (g sz : Nat) (F : Nat → Bool) (w w' : World) : Prop := Bt.Row w' g sz F ∧ w.grownBy w' (some g)
theorem Bt.or_byte (G : Nat → Bool) (a m q r : Nat) (hq : q = a / 8) (hr : r = a % 8) :
    bits .or .u8 ((Bt.oct G q : Nat) : Int) (IntKind.u64.wrap ((m : Int) * 2 ^ r) % 256) = ((Bt.oct (Bt.laid G a m) q : Nat) : Int) := by
  subst hq hr
  have e : IntKind.u64.wrap ((m : Int) * 2 ^ (a % 8)) % 256 = ((m * 2 ^ (a % 8) % 256 : Nat) : Int) := by
    rw [IntKind.wrap_u64]
    have e1 : (m : Int) * 2 ^ (a % 8) = ((m * 2 ^ (a % 8) : Nat) : Int) := by simp
    rw [e1]
    omega
  rw [e, (bits_nat .u8 8 (by decide) wraps_u8 _ _ (Bt.oct_lt G (a / 8)) (Nat.mod_lt _ (by decide))).2, Bt.laid_here]
theorem Bt.Put.next {g sz a m q r : Nat} {G : Nat → Bool} {w wr : World} (h : Bt.Put g sz G w wr) (hq : q = a / 8) (hr : r = a % 8) :
    Bt.Put g sz (Bt.laid G a m) w (wr.setCell ⟨g, q, none⟩ (.int .u8 (bits .or .u8 ((Bt.oct G q : Nat) : Int) (IntKind.u64.wrap ((m : Int) * 2 ^ r) % 256)))).drew := by
  obtain ⟨hR, hB⟩ := h
  rw [Bt.or_byte G a m q r hq hr]
  refine ⟨World.rowIs.drew (World.rowIs.congr (World.rowIs.set hR q _) fun i _ => ?_), ?_⟩
  · by_cases e : i = q
    · subst e
      rw [if_pos rfl]
    · rw [if_neg e, Bt.laid_far G a m i (by rw [← hq]; exact e)]
  · have h2 := Bt.by_trans hB (Bt.by_set wr g q (.int .u8 ((Bt.oct (Bt.laid G a m) q : Nat) : Int)))
    exact ⟨h2.os, h2.tape, h2.output, h2.size, h2.block⟩
set_option maxHeartbeats 1000000 in
set_option maxRecDepth 100000 in
theorem Bt.put_c (g sz c : Nat) (F : Nat → Bool) (p n : Nat) (w : World) (h : Bt.Row w g sz F) (hn : n < 2 ^ (8 * sz - p)) (h64 : n < 18446744073709551616) (hp : p ≤ 9007199254740992) (hsz : 8 * sz ≤ 9007199254740992) :
    Calls Tryz.prog 38 #[.slice (some ⟨g, 0, none⟩) sz c, .int .i64 p, .int .u64 n] w fun e w' => e = .returned (.tuple #[]) ∧ Bt.Put g sz (Bt.putF F p n) w w' := by
  go_enter Tryz.func38, Tryz.ntmps38
  go_wp2
  go_loopw [1, 2] (fun i v wr => ∃ a m : Nat, i = .int .i64 a ∧ v = .int .u64 m ∧ m < 18446744073709551616 ∧ a ≤ 9007199254741000 ∧ m < 2 ^ (8 * sz - a) ∧ ∃ G, Bt.putF F p n = Bt.putF G a m ∧ Bt.Put g sz G w wr) (fun _ v _ => (intOf v).toNat)
  case atStart => exact ⟨p, n, rfl, rfl, h64, by omega, hn, F, rfl, h, Bt.by_refl _ _⟩
  case round =>
    obtain ⟨a, m, rfl, rfl, hm, ha, hml, G, hG, hR, hB⟩ := hrel
    have HG := Lib.hid hG
    have HL := Lib.hid hml
    clear hG hml hn h
    by_cases h0 : m = 0
    · subst h0
      go_wp2
      go_end0
      exact ⟨rfl, by rw [HG.out, Bt.putF_zero]; exact hR, hB⟩
    · have hpos : (m : Int) > 0 := by omega
      have hroom := Bt.put_room HL.out (by omega)
      obtain ⟨q, eq⟩ : ∃ q, q = a / 8 := ⟨_, rfl⟩
      obtain ⟨r, er⟩ : ∃ r, r = a % 8 := ⟨_, rfl⟩
      have hi : q < sz := by omega
      have hc := hR.cell hi
      have hf := hR.frozen q
      have hiz : (q : Int) < (sz : Int) := by omega
      have hiz0 : (0 : Int) ≤ (q : Int) := by omega
      have hq : (a : Int) / 8 = (q : Int) := by omega
      have hr : (a : Int) % 8 = (r : Int) := by omega
      have hr8 : r < 8 := by omega
      have hwq : IntKind.i64.wrap (q : Int) = (q : Int) := by rw [IntKind.wrap_i64]; omega
      have HE := Lib.hid (And.intro eq er)
      clear eq er
      go_wp2_with fail
      refine wp_region_still_tail 11 (by kernel_rfl) (by kernel_rfl) ?_
      simp only [List.take_succ_cons, List.take_zero, List.drop_succ_cons, List.drop_zero]
      change wpStill _ _ (World.drew _) (fun a' => wpList _ _ _ _ a' (World.drew _)) _ _
      still_step
      still_step
      still_step
      still_step
      still_step
      still_step
      still_step
      still_step
      still_step
      still_step
      still_step
      refine wpStill_nil ?_
      go_wp2
      obtain ⟨eq, er⟩ := HE.out
      go_roundw
      case rel =>
        refine ⟨a + (8 - r), m / 2 ^ (8 - r), ?_, ?_, ?_, ?_, ?_, Bt.laid G a m, ?_, ?_⟩
        · congr 1; omega
        · congr 1
        · exact Nat.lt_of_le_of_lt (Nat.div_le_self _ _) hm
        · omega
        · rw [er]; exact Bt.put_less HL.out (by omega)
        · rw [HG.out, er]; funext x; exact Bt.putF_next G a m x
        · exact Bt.Put.next ⟨hR, hB⟩ eq er
      case measure =>
        have := Bt.put_down (n := m) (k := a) (by omega)
        rw [← er] at this
        have e : ((m : Int) / 2 ^ (8 - r)) = ((m / 2 ^ (8 - r) : Nat) : Int) := by simp
        simp only [intOf]
        rw [e]
        omega
end Go.Proofs.YtcognkgabdaneaaGreatDoor

namespace Go.Proofs.YtcognkgabdaneaaGreatDoor
open Go.RowKit
theorem Bt.wraps_u64 (n : Int) (h₀ : 0 ≤ n) (h₁ : n < 2 ^ 64) : IntKind.u64.wrap n = n := by rw [IntKind.wrap_u64]; omega
theorem Bt.or64 (m b r k : Nat) (hm : m < 2 ^ 64) (hb : b < 256) :
    bits .or .u64 (m : Int) (IntKind.u64.wrap (IntKind.u64.wrap ((b : Int) / 2 ^ r) * 2 ^ k)) = ((m ||| (b / 2 ^ r * 2 ^ k % 2 ^ 64) : Nat) : Int) := by
  have e1 : (b : Int) / 2 ^ r = ((b / 2 ^ r : Nat) : Int) := by simp
  have hx : b / 2 ^ r < 256 := Nat.lt_of_le_of_lt (Nat.div_le_self _ _) hb
  rw [e1, Bt.wraps_u64 ((b / 2 ^ r : Nat) : Int) (Int.natCast_nonneg _) (Int.lt_trans (Int.ofNat_lt.2 hx) (by decide))]
  have e2 : ((b / 2 ^ r : Nat) : Int) * 2 ^ k = ((b / 2 ^ r * 2 ^ k : Nat) : Int) := by simp
  rw [e2, IntKind.wrap_u64]
  have e3 : ((b / 2 ^ r * 2 ^ k : Nat) : Int) % 18446744073709551616 = ((b / 2 ^ r * 2 ^ k % 2 ^ 64 : Nat) : Int) := by omega
  rw [e3, (bits_nat .u64 64 (by decide) Bt.wraps_u64 _ _ hm (Nat.mod_lt _ (Nat.two_pow_pos _))).2]
theorem Bt.and64 (m n : Nat) (hm : m < 2 ^ 64) (hn : n ≤ 64) :
    bits .and .u64 (m : Int) (IntKind.u64.wrap (IntKind.u64.wrap (2 ^ n) - 1)) = ((m &&& (2 ^ n - 1) : Nat) : Int) := by
  have h1 : 2 ^ n - 1 < 2 ^ 64 := Nat.lt_of_lt_of_le (Nat.sub_lt (Nat.two_pow_pos _) (by decide)) (Nat.pow_le_pow_right (by decide) hn)
  have e : IntKind.u64.wrap (IntKind.u64.wrap (2 ^ n) - 1) = ((2 ^ n - 1 : Nat) : Int) := by
    have hp := Nat.two_pow_pos n
    have e0 : (2 : Int) ^ n = ((2 ^ n : Nat) : Int) := by simp
    rw [e0]
    by_cases h : n = 64
    · subst h
      rw [IntKind.wrap_u64, IntKind.wrap_u64]
      decide
    · have h2 : 2 ^ n ≤ 2 ^ 63 := Nat.pow_le_pow_right (by decide) (by omega)
      have e1 : IntKind.u64.wrap ((2 ^ n : Nat) : Int) = ((2 ^ n : Nat) : Int) := Bt.wraps_u64 _ (by omega) (by omega)
      rw [e1, Bt.wraps_u64 _ (by omega) (by omega)]
      omega
  rw [e, (bits_nat .u64 64 (by decide) Bt.wraps_u64 _ _ hm h1).1]
theorem Bt.reti {k : IntKind} {x y : Int} (h : x = y) : Ending.returned (.int k x) = Ending.returned (.int k y) := by rw [h]
set_option maxHeartbeats 1000000 in
theorem Bt.get_c (s : ByteArray) (p n : Nat) (w : World) (hn : n ≤ 64) (hs : p + n ≤ 8 * s.size) (hp : p ≤ 9007199254740992) :
    Calls Tryz.prog 67 #[.string s, .int .i64 p, .int .i64 n] w fun e w' => e = .returned (.int .u64 (Bt.num n (fun j => Bt.bit s (p + j)) : Nat)) ∧ w' = w := by
  go_enter Tryz.func67, Tryz.ntmps67
  go_wp2
  go_loop [7, 8] (fun v d => ∃ m k : Nat, v = .int .u64 m ∧ d = .int .i64 k ∧ k ≤ 72 ∧ Bt.Got s p k m) (fun _ d => 72 - (intOf d).toNat)
  case atStart => exact ⟨0, 0, rfl, rfl, by omega, Bt.Got.zero s p⟩
  case round =>
    obtain ⟨m, k, rfl, rfl, hk, hG⟩ := hrel
    have HG := Lib.hid hG
    clear hG
    by_cases hl : k < n
    · obtain ⟨q, eq⟩ : ∃ q, q = (p + k) / 8 := ⟨_, rfl⟩
      obtain ⟨r, er⟩ : ∃ r, r = (p + k) % 8 := ⟨_, rfl⟩
      have hi : q < s.size := by omega
      have hq : ((p : Int) + (k : Int)) / 8 = (q : Int) := by omega
      have hr : ((p : Int) + (k : Int)) % 8 = (r : Int) := by omega
      have hr8 : r < 8 := by omega
      have HE := Lib.hid (And.intro eq er)
      have HS := Lib.hid hs
      clear eq er hs
      go_wp2
      obtain ⟨eq, er⟩ := HE.out
      go_round
      case rel =>
        have h1 := HG.out.next (by rw [← eq]; exact hi)
        have hb := s[q].toNat_lt
        refine ⟨m ||| (s[q].toNat / 2 ^ r * 2 ^ k % 2 ^ 64), k + (8 - r), ?_, ?_, by omega, ?_⟩
        · rw [Bt.or64 m _ r k HG.out.1 hb]
        · congr 1; omega
        · subst eq er
          exact h1
      case measure => simp [intOf]; omega
    · go_wp2
      go_ret
      exact ⟨Bt.reti (by rw [Bt.and64 m n HG.out.1 hn, HG.out.last (by omega) hn]), rfl⟩
set_option maxHeartbeats 1000000 in
theorem Bt.check_c (s : ByteArray) (n : Nat) (w : World) (hn : n ≤ 9007199254740992) (hs : s.size ≤ 9007199254740992) :
    Calls Tryz.prog 66 #[.string s, .int .i64 n] w fun e w' => e = .returned (.int .i64 (Bt.chk s n : Nat)) ∧ w' = w := by
  generalize hC : Bt.chk s n = C
  have HC := Lib.hid hC
  have HN : Hid (Bt.need n ≤ 9007199254740992) := Lib.hid (by unfold Bt.need; omega)
  have c1 := fun w => Bt.size_c n (by omega) w
  obtain ⟨d, ed⟩ : ∃ d, d = Bt.need n := ⟨_, rfl⟩
  rw [← ed] at c1 HN
  have ED := Lib.hid ed
  clear hC ed
  by_cases h1 : s.size < d
  · have e : C = 2 := by rw [← HC.out, Bt.chk, ← ED.out, if_pos h1]
    subst e
    go_enter Tryz.func66, Tryz.ntmps66
    go_wp2_with fail
    refine (c1 _).mono ?_
    rintro e w' ⟨rfl, rfl⟩
    go_wp2
    go_ret
    exact ⟨rfl, rfl⟩
  · by_cases h2 : d < s.size
    · have e : C = 3 := by rw [← HC.out, Bt.chk, ← ED.out, if_neg h1, if_pos h2]
      subst e
      go_enter Tryz.func66, Tryz.ntmps66
      go_wp2_with fail
      refine (c1 _).mono ?_
      rintro e w' ⟨rfl, rfl⟩
      go_wp2_with fail
      refine (c1 _).mono ?_
      rintro e w' ⟨rfl, rfl⟩
      go_wp2
      go_ret
      exact ⟨rfl, rfl⟩
    · obtain ⟨r, er⟩ : ∃ r, r = n % 8 := ⟨_, rfl⟩
      have hr : (n : Int) % 8 = (r : Int) := by omega
      have ER := Lib.hid er
      clear er
      by_cases h3 : 0 < r
      · obtain ⟨q, eq⟩ : ∃ q, q = s.size - 1 := ⟨_, rfl⟩
        have hsz : s.size = Bt.need n := by have := ED.out; omega
        have hpos : 0 < s.size := by rw [hsz]; unfold Bt.need; have := ER.out; omega
        have hi : q < s.size := by omega
        have hq : (s.size : Int) - 1 = (q : Int) := by omega
        have HD : Hid (Bt.dirty s n = decide (s[q].toNat / 2 ^ r ≠ 0)) := Lib.hid (by
          subst eq
          rw [ER.out]
          exact Bt.dirty_last s n (by have := ER.out; omega) hsz hi)
        have h3i : (0 : Int) < (r : Int) := by omega
        clear hsz hpos eq
        by_cases h4 : s[q].toNat / 2 ^ r = 0
        · have e : C = 0 := by rw [← HC.out, Bt.chk, ← ED.out, if_neg h1, if_neg h2, HD.out, h4]; rfl
          subst e
          have hb : ((s[q].toNat : Int) / 2 ^ r != 0) = false := by
            rw [bne_eq_false_iff_eq]
            have e : (s[q].toNat : Int) / 2 ^ r = ((s[q].toNat / 2 ^ r : Nat) : Int) := by simp
            rw [e, h4]; rfl
          go_enter Tryz.func66, Tryz.ntmps66
          go_wp2_with fail
          refine (c1 _).mono ?_
          rintro e w' ⟨rfl, rfl⟩
          go_wp2_with fail
          refine (c1 _).mono ?_
          rintro e w' ⟨rfl, rfl⟩
          go_wp2
          go_ret
          exact ⟨rfl, rfl⟩
        · have e : C = 5 := by rw [← HC.out, Bt.chk, ← ED.out, if_neg h1, if_neg h2, HD.out, decide_eq_true h4]; rfl
          subst e
          have hb : ((s[q].toNat : Int) / 2 ^ r != 0) = true := by
            rw [bne_iff_ne]
            have e : (s[q].toNat : Int) / 2 ^ r = ((s[q].toNat / 2 ^ r : Nat) : Int) := by simp
            rw [e]; omega
          clear h4
          go_enter Tryz.func66, Tryz.ntmps66
          go_wp2_with fail
          refine (c1 _).mono ?_
          rintro e w' ⟨rfl, rfl⟩
          go_wp2_with fail
          refine (c1 _).mono ?_
          rintro e w' ⟨rfl, rfl⟩
          go_wp2
          go_ret
          exact ⟨rfl, rfl⟩
      · have e : C = 0 := by rw [← HC.out, Bt.chk, ← ED.out, if_neg h1, if_neg h2, Bt.dirty_none s n (by have := ER.out; omega)]; rfl
        subst e
        go_enter Tryz.func66, Tryz.ntmps66
        go_wp2_with fail
        refine (c1 _).mono ?_
        rintro e w' ⟨rfl, rfl⟩
        go_wp2_with fail
        refine (c1 _).mono ?_
        rintro e w' ⟨rfl, rfl⟩
        go_wp2
        go_ret
        exact ⟨rfl, rfl⟩
/-- How many bits: the table of 256 bytes. -/
theorem Bt.len8_all : ∀ x : Fin 256, Lib.len8 ((x.val : Nat) : Int) = ((bitLen x.val : Nat) : Int) := by decide +kernel
theorem Bt.len_end (k x : Nat) (hk : k ≤ 56) (h : x < 256) : wrap64 ((k : Int) + wrap64 (Lib.len8 ((x : Int) % 256))) = ((k + bitLen x : Nat) : Int) := by
  have e : (x : Int) % 256 = (x : Int) := by omega
  have e2 : Lib.len8 (x : Int) = ((bitLen x : Nat) : Int) := Bt.len8_all ⟨x, h⟩
  have h8 := bitLen_le8 x h
  have e3 : wrap64 ((bitLen x : Nat) : Int) = ((bitLen x : Nat) : Int) := IntWalk.wrap64_in _ (by omega)
  rw [e, e2, e3, IntWalk.wrap64_in _ (by omega)]
  simp
theorem Bt.len_end0 (x : Nat) (h : x < 256) : wrap64 (wrap64 (Lib.len8 ((x : Int) % 256))) = ((bitLen x : Nat) : Int) := by
  have := Bt.len_end 0 x (by decide) h
  simpa using this
set_option maxHeartbeats 2000000 in
set_option maxRecDepth 100000 in
theorem Bt.len64_c (n : Nat) (hn : n < 18446744073709551616) (w : World) :
    Calls Tryz.prog 145 #[.int .u64 n] w fun e w' => e = .returned (.int .i64 (bitLen n : Nat)) ∧ w' = w := by
  have H := Lib.hid hn
  clear hn
  by_cases h1 : (4294967296 : Int) ≤ (n : Int)
  · obtain ⟨x1, e1⟩ : ∃ x, x = n / 4294967296 := ⟨_, rfl⟩
    have q1 : (n : Int) / 4294967296 = (x1 : Int) := by omega
    have g1 : 1 ≤ x1 ∧ x1 < 4294967296 := by have := H.out; omega
    by_cases h2 : (65536 : Int) ≤ (x1 : Int)
    · obtain ⟨x2, e2⟩ : ∃ x, x = x1 / 65536 := ⟨_, rfl⟩
      have q2 : (x1 : Int) / 65536 = (x2 : Int) := by omega
      have g2 : 1 ≤ x2 ∧ x2 < 65536 := by have := H.out; omega
      by_cases h3 : (256 : Int) ≤ (x2 : Int)
      · obtain ⟨x3, e3⟩ : ∃ x, x = x2 / 256 := ⟨_, rfl⟩
        have q3 : (x2 : Int) / 256 = (x3 : Int) := by omega
        have g3 : 1 ≤ x3 ∧ x3 < 256 := by have := H.out; omega
        have hx8 : x3 < 256 := by omega
        have HB : Hid (bitLen n = 56 + bitLen x3) := Lib.hid (by have := H.out; have e : x3 = n / 2 ^ 56 := (by omega); rw [e]; exact bitLen_shift n 56 (by rw [← e]; omega))
        have HX := Lib.hid hx8
        clear hx8 g1 g2 g3 e1 e2 e3
        go_enter Tryz.func145, Tryz.ntmps145
        go_wp2
        go_ret
        exact ⟨Bt.reti (by rw [HB.out]; exact Bt.len_end 56 _ (by decide) HX.out), rfl⟩
      · have b3 : decide ((256 : Int) ≤ (x2 : Int)) = false := decide_eq_false h3
        have f3 : x2 < 256 := by omega
        clear h3
        have hx8 : x2 < 256 := by omega
        have HB : Hid (bitLen n = 48 + bitLen x2) := Lib.hid (by have := H.out; have e : x2 = n / 2 ^ 48 := (by omega); rw [e]; exact bitLen_shift n 48 (by rw [← e]; omega))
        have HX := Lib.hid hx8
        clear hx8 f3 g1 g2 e1 e2
        go_enter Tryz.func145, Tryz.ntmps145
        go_wp2
        go_ret
        exact ⟨Bt.reti (by rw [HB.out]; exact Bt.len_end 48 _ (by decide) HX.out), rfl⟩
    · have b2 : decide ((65536 : Int) ≤ (x1 : Int)) = false := decide_eq_false h2
      have f2 : x1 < 65536 := by omega
      clear h2
      by_cases h3 : (256 : Int) ≤ (x1 : Int)
      · obtain ⟨x3, e3⟩ : ∃ x, x = x1 / 256 := ⟨_, rfl⟩
        have q3 : (x1 : Int) / 256 = (x3 : Int) := by omega
        have g3 : 1 ≤ x3 ∧ x3 < 256 := by have := H.out; omega
        have hx8 : x3 < 256 := by omega
        have HB : Hid (bitLen n = 40 + bitLen x3) := Lib.hid (by have := H.out; have e : x3 = n / 2 ^ 40 := (by omega); rw [e]; exact bitLen_shift n 40 (by rw [← e]; omega))
        have HX := Lib.hid hx8
        clear hx8 f2 g1 g3 e1 e3
        go_enter Tryz.func145, Tryz.ntmps145
        go_wp2
        go_ret
        exact ⟨Bt.reti (by rw [HB.out]; exact Bt.len_end 40 _ (by decide) HX.out), rfl⟩
      · have b3 : decide ((256 : Int) ≤ (x1 : Int)) = false := decide_eq_false h3
        have f3 : x1 < 256 := by omega
        clear h3
        have hx8 : x1 < 256 := by omega
        have HB : Hid (bitLen n = 32 + bitLen x1) := Lib.hid (by have := H.out; have e : x1 = n / 2 ^ 32 := (by omega); rw [e]; exact bitLen_shift n 32 (by rw [← e]; omega))
        have HX := Lib.hid hx8
        clear hx8 f2 f3 g1 e1
        go_enter Tryz.func145, Tryz.ntmps145
        go_wp2
        go_ret
        exact ⟨Bt.reti (by rw [HB.out]; exact Bt.len_end 32 _ (by decide) HX.out), rfl⟩
  · have b1 : decide ((4294967296 : Int) ≤ (n : Int)) = false := decide_eq_false h1
    have f1 : n < 4294967296 := by omega
    clear h1
    by_cases h2 : (65536 : Int) ≤ (n : Int)
    · obtain ⟨x2, e2⟩ : ∃ x, x = n / 65536 := ⟨_, rfl⟩
      have q2 : (n : Int) / 65536 = (x2 : Int) := by omega
      have g2 : 1 ≤ x2 ∧ x2 < 65536 := by have := H.out; omega
      by_cases h3 : (256 : Int) ≤ (x2 : Int)
      · obtain ⟨x3, e3⟩ : ∃ x, x = x2 / 256 := ⟨_, rfl⟩
        have q3 : (x2 : Int) / 256 = (x3 : Int) := by omega
        have g3 : 1 ≤ x3 ∧ x3 < 256 := by have := H.out; omega
        have hx8 : x3 < 256 := by omega
        have HB : Hid (bitLen n = 24 + bitLen x3) := Lib.hid (by have := H.out; have e : x3 = n / 2 ^ 24 := (by omega); rw [e]; exact bitLen_shift n 24 (by rw [← e]; omega))
        have HX := Lib.hid hx8
        clear hx8 f1 g2 g3 e2 e3
        go_enter Tryz.func145, Tryz.ntmps145
        go_wp2
        go_ret
        exact ⟨Bt.reti (by rw [HB.out]; exact Bt.len_end 24 _ (by decide) HX.out), rfl⟩
      · have b3 : decide ((256 : Int) ≤ (x2 : Int)) = false := decide_eq_false h3
        have f3 : x2 < 256 := by omega
        clear h3
        have hx8 : x2 < 256 := by omega
        have HB : Hid (bitLen n = 16 + bitLen x2) := Lib.hid (by have := H.out; have e : x2 = n / 2 ^ 16 := (by omega); rw [e]; exact bitLen_shift n 16 (by rw [← e]; omega))
        have HX := Lib.hid hx8
        clear hx8 f1 f3 g2 e2
        go_enter Tryz.func145, Tryz.ntmps145
        go_wp2
        go_ret
        exact ⟨Bt.reti (by rw [HB.out]; exact Bt.len_end 16 _ (by decide) HX.out), rfl⟩
    · have b2 : decide ((65536 : Int) ≤ (n : Int)) = false := decide_eq_false h2
      have f2 : n < 65536 := by omega
      clear h2
      by_cases h3 : (256 : Int) ≤ (n : Int)
      · obtain ⟨x3, e3⟩ : ∃ x, x = n / 256 := ⟨_, rfl⟩
        have q3 : (n : Int) / 256 = (x3 : Int) := by omega
        have g3 : 1 ≤ x3 ∧ x3 < 256 := by have := H.out; omega
        have hx8 : x3 < 256 := by omega
        have HB : Hid (bitLen n = 8 + bitLen x3) := Lib.hid (by have := H.out; have e : x3 = n / 2 ^ 8 := (by omega); rw [e]; exact bitLen_shift n 8 (by rw [← e]; omega))
        have HX := Lib.hid hx8
        clear hx8 f1 f2 g3 e3
        go_enter Tryz.func145, Tryz.ntmps145
        go_wp2
        go_ret
        exact ⟨Bt.reti (by rw [HB.out]; exact Bt.len_end 8 _ (by decide) HX.out), rfl⟩
      · have b3 : decide ((256 : Int) ≤ (n : Int)) = false := decide_eq_false h3
        have f3 : n < 256 := by omega
        clear h3
        have hx8 : n < 256 := by omega
        have HB : Hid (bitLen n = bitLen n) := Lib.hid rfl
        have HX := Lib.hid hx8
        clear hx8 f1 f2 f3
        go_enter Tryz.func145, Tryz.ntmps145
        go_wp2
        go_ret
        exact ⟨Bt.reti (Bt.len_end0 _ HX.out), rfl⟩
end Go.Proofs.YtcognkgabdaneaaGreatDoor

namespace Go.Proofs.YtcognkgabdaneaaGreatDoor
open Go.RowKit
/-- n values that lie one behind the other. -/
structure Bt.Sl (w : World) (v : Value) (n : Nat) (f : Nat → Value) : Prop where
  is : ∃ a c, v = .slice a n c ∧ (n = 0 ∨ ∃ b o, a = some ⟨b, o, none⟩ ∧ b < w.heap.size ∧ ∀ i, i < n → w.cell? ⟨b, o + i, none⟩ = some (f i))
theorem Bt.Sl.later {w w' : World} {v : Value} {n : Nat} {f : Nat → Value} (h : Bt.Sl w v n f) (g : Below w.heap.size w w') : Bt.Sl w' v n f := by
  obtain ⟨a, c, rfl, h⟩ := h
  refine ⟨a, c, rfl, ?_⟩
  rcases h with h | ⟨b, o, rfl, hlt, h⟩
  · exact .inl h
  · exact .inr ⟨b, o, rfl, Nat.lt_of_lt_of_le hlt g.size, fun i hi => (g.cell (p := ⟨b, o + i, none⟩) hlt).trans (h i hi)⟩
/-- A number as a value; a truth as a value. -/
def Bt.nv (X : Nat → Nat) (i : Nat) : Value := .int .u64 ((X i : Nat) : Int)
def Bt.bv (T : Nat → Bool) (i : Nat) : Value := .bool (T i)
theorem Bt.or_u64 (a b : Nat) (ha : a < 2 ^ 64) (hb : b < 2 ^ 64) : bits .or .u64 (a : Int) (b : Int) = ((a ||| b : Nat) : Int) := (bits_nat .u64 64 (by decide) Bt.wraps_u64 _ _ ha hb).2
set_option maxHeartbeats 1000000 in
theorem Bt.width_c (v : Value) (n : Nat) (X : Nat → Nat) (w : World) (h : Bt.Sl w v n (Bt.nv X)) (hX : ∀ i, X i < 2 ^ 64) (hn : n ≤ 140737488355328) :
    Calls Tryz.prog 132 #[v] w fun e w' => e = .returned (.int .i64 (Bt.wid n X : Nat)) ∧ w' = w := by
  obtain ⟨a, c, rfl, h⟩ := h
  have c1 := fun w => Bt.len64_c (Bt.orN n X) ((Bt.orN_lt n X 64).2 fun i _ => hX i) w
  have e1 : bitLen (Bt.orN n X) = Bt.wid n X := rfl
  rw [e1] at c1
  have HX := Lib.hid hX
  clear hX e1
  go_enter Tryz.func132, Tryz.ntmps132
  go_wp2
  go_loop [3, 8] (fun m i => ∃ k : Nat, k ≤ n ∧ i = .int .i64 k ∧ m = .int .u64 (Bt.orN k X : Nat)) (fun _ i => n - (intOf i).toNat)
  case atStart => exact ⟨0, by omega, rfl, rfl⟩
  case round =>
    obtain ⟨k, hk, rfl, rfl⟩ := hrel
    by_cases hl : k < n
    · rcases h with h | ⟨b, o, rfl, hlt, h⟩
      · omega
      · have hc := h k hl
        unfold Bt.nv at hc
        have hkl : (k : Int) < (n : Int) := by omega
        have hk0 : (0 : Int) ≤ (k : Int) := by omega
        clear h
        go_wp2
        go_round
        case rel => exact ⟨k + 1, by omega, by simp, by rw [Bt.or_u64 _ _ ((Bt.orN_lt k X 64).2 fun i _ => HX.out i) (HX.out k)]; rfl⟩
        case measure => simp [intOf]; omega
    · obtain rfl : k = n := by omega
      have hkl : ¬ (k : Int) < (k : Int) := by omega
      go_wp2_with fail
      refine (c1 _).mono ?_
      rintro e w' ⟨rfl, rfl⟩
      go_wp2
      go_ret
      exact ⟨rfl, rfl⟩
theorem Bt.oct_zero (i : Nat) : Bt.oct (fun _ => false) i = 0 := Bt.num_is (by decide) fun j _ => by simp
theorem Bt.made (w : World) (n : Nat) : Bt.Row (w.alloc (.cells (madeCells #[.int .u8 0] n) 5)) w.heap.size n (fun _ => false) :=
  (World.rowIs_made w (.int .u8 0) n 5).congr fun i _ => by rw [Bt.oct_zero]; rfl
theorem Bt.info8 : (Tryz.prog.info? 5).map (fun i => (i.zero, i.size, i.bytes)) = some (some (.int .u8 0), 1, 1) := by kernel_rfl
theorem Bt.Put.below {g sz : Nat} {F : Nat → Bool} {w w' : World} (h : Bt.Put g sz F w w') {B : Nat} (hB : B ≤ g) (hs : B ≤ w.heap.size) : Below B w w' :=
  ⟨h.2.os, h.2.tape, h.2.output, h.2.size, fun k hk => h.2.block k (by omega) (fun e => by have := Option.some.inj e; omega)⟩
theorem Bt.rets {x y : ByteArray} (h : x = y) : Ending.returned (.string x) = Ending.returned (.string y) := by rw [h]
set_option maxHeartbeats 1000000 in
theorem Bt.truths_c (v : Value) (n : Nat) (T : Nat → Bool) (w : World) (h : Bt.Sl w v n (Bt.bv T)) (hn : n ≤ 140737488355328) :
    Calls Tryz.prog 20 #[v] w fun e w' => e = .returned (.string (Bt.bytes (Bt.need n) (Bt.tr n T))) ∧ Below w.heap.size w w' := by
  obtain ⟨a, c, rfl, h⟩ := h
  have c1 := fun w => Bt.size_c n (by omega) w
  have hroom := (Bt.need_room n).1
  have hz : Bt.need n ≤ 140737488355328 := by unfold Bt.need; omega
  generalize Bt.need n = sz at c1 hroom hz ⊢
  have hmk := run_make_row' (P := Tryz.prog) 47 5 (.int .u8 0) 1 Tryz.underlying47 Bt.info8 rfl .i64 .i64 sz (by omega) (by omega)
  have HZ := Lib.hid hz
  have HN := Lib.hid hn
  have HRM := Lib.hid hroom
  clear hz hn hroom
  go_enter Tryz.func20, Tryz.ntmps20
  go_wp2_with fail
  refine (c1 _).mono ?_
  rintro e w1 ⟨rfl, rfl⟩
  go_wp2_with fail
  have hR := Bt.made w1 sz
  have hB : Below w1.heap.size w1 (w1.alloc (.cells (madeCells #[.int .u8 0] sz) 5)) := (Below.refl _ _).alloc (Nat.le_refl _) _
  generalize w1.alloc (.cells (madeCells #[.int .u8 0] sz) 5) = w2 at hR hB ⊢
  clear hmk c1
  generalize hg : w1.heap.size = g at h hR hB
  have HGE := Lib.hid hg
  clear hg
  go_loopw [12] (fun i wr => ∃ k : Nat, k ≤ n ∧ i = .int .i64 k ∧ Bt.Row wr g sz (Bt.tr k T) ∧ Below g w1 wr ∧ g < wr.heap.size) (fun i _ => n - (intOf i).toNat)
  case atStart => exact ⟨0, by omega, rfl, by rw [Bt.tr_zero]; exact hR, hB, hR.lt⟩
  case round =>
    obtain ⟨k, hk, rfl, hRk, hBk, hlt⟩ := hrel
    have HR := Lib.hid hRk
    clear hR hB hRk
    by_cases hl : k < n
    · rcases h with h | ⟨b, o, rfl, hb, h⟩
      · omega
      · have hc : wr.cell? ⟨b, o + k, none⟩ = some (.bool (T k)) := (hBk.cell (p := ⟨b, o + k, none⟩) hb).trans (h k hl)
        have hkl : (k : Int) < (n : Int) := by omega
        have hk0 : (0 : Int) ≤ (k : Int) := by omega
        have hk2 : (k : Int) < 140737488355328 := by have := HN.out; omega
        cases hT : T k
        · rw [hT] at hc
          have HT := Lib.hid hT
          clear h hT
          go_wp2
          go_roundw
          case rel => exact ⟨k + 1, by omega, by simp, by rw [Bt.tr_skip T k HT.out]; exact HR.out, hBk, hlt⟩
          case measure => simp [intOf]; omega
        · rw [hT] at hc
          have HT := Lib.hid hT
          have cp := Bt.put_c g sz sz (Bt.tr k T) k 1 wr HR.out (by have := HRM.out; exact Nat.one_lt_two_pow (by omega)) (by decide) (by have := HN.out; omega) (by have := HZ.out; omega)
          clear h hT
          go_wp2_with fail
          refine cp.mono ?_
          rintro e w3 ⟨rfl, hP⟩
          have hB3 := hBk.trans (hP.below (Nat.le_refl _) (by omega))
          have hs3 : g < w3.heap.size := hP.1.lt
          have HP := Lib.hid hP
          clear hP hlt hBk hc cp
          go_wp2
          go_roundw
          case rel => exact ⟨k + 1, by omega, by simp, by rw [Bt.tr_put T k HT.out]; exact HP.out.1, hB3, hs3⟩
          case measure => simp [intOf]; omega
    · obtain rfl : k = n := by omega
      have hkl : ¬ (k : Int) < (k : Int) := by omega
      have hs := HR.out.string (c := sz)
      go_wp2
      go_ret
      exact ⟨rfl, by rw [HGE.out]; exact hBk⟩
/-- What Pack returns. -/
def Bt.packV (n : Nat) (X : Nat → Nat) (q : Int) : Value :=
  if 0 ≤ q ∧ q ≤ 64 then (if q.toNat < Bt.wid n X then .tuple #[.string ⟨#[]⟩, .int .i64 4] else .tuple #[.string (Bt.bytes (Bt.need (n * q.toNat)) (Bt.pk n X q.toNat)), .int .i64 0])
  else .tuple #[.string ⟨#[]⟩, .int .i64 1]
theorem Bt.mul_le (n q : Nat) (hq : q ≤ 64) : n * q ≤ n * 64 := Nat.mul_le_mul_left _ hq
set_option maxHeartbeats 1000000 in
theorem Bt.pack_ok (v : Value) (n : Nat) (X : Nat → Nat) (q : Nat) (w : World) (h : Bt.Sl w v n (Bt.nv X)) (hX : ∀ i, X i < 2 ^ 64) (hn : n ≤ 17592186044416) (hq : q ≤ 64) (hw : Bt.wid n X ≤ q) :
    Calls Tryz.prog 133 #[v, .int .i64 q] w fun e w' => e = .returned (.tuple #[.string (Bt.bytes (Bt.need (n * q)) (Bt.pk n X q)), .int .i64 0]) ∧ Below w.heap.size w w' := by
  have c0 := Bt.rightWidth_c q
  rw [decide_eq_true ⟨by omega, by omega⟩] at c0
  have c3 := Bt.width_c v n X w h hX (by omega)
  obtain ⟨a, c, rfl, h⟩ := h
  have hmul := Bt.mul_le n q hq
  generalize hm : n * q = m at hmul ⊢
  have hmi : (n : Int) * (q : Int) = (m : Int) := by rw [← hm]; simp
  have c1 := fun w => Bt.size_c m (by omega) w
  have hroom := (Bt.need_room m).1
  have hz : Bt.need m ≤ 140737488355328 := by unfold Bt.need; omega
  generalize Bt.need m = sz at c1 hroom hz ⊢
  have hmk := run_make_row' (P := Tryz.prog) 47 5 (.int .u8 0) 1 Tryz.underlying47 Bt.info8 rfl .i64 .i64 sz (by omega) (by omega)
  have HF : Hid (n ≤ 17592186044416 ∧ q ≤ 64 ∧ m ≤ n * 64 ∧ n * q = m ∧ m ≤ 8 * sz ∧ sz ≤ 140737488355328 ∧ (∀ i, X i < 2 ^ 64) ∧ ∀ i, i < n → X i < 2 ^ q) := Lib.hid ⟨hn, hq, hmul, hm, hroom, hz, hX, (Bt.wid_le n X q).1 hw⟩
  have hmm : m ≤ 1125899906842624 := by omega
  have hwi : ((Bt.wid n X : Nat) : Int) ≤ (q : Int) := by omega
  clear hn hq hmul hm hroom hz hX hw
  go_enter Tryz.func133, Tryz.ntmps133
  go_wp2_with fail
  refine (c0 _).mono ?_
  rintro e w0 ⟨rfl, rfl⟩
  go_wp2_with fail
  refine c3.mono ?_
  rintro e w1 ⟨rfl, rfl⟩
  go_wp2_with fail
  refine (c1 _).mono ?_
  rintro e w1 ⟨rfl, rfl⟩
  go_wp2_with fail
  have hR := Bt.made w1 sz
  have hB : Below w1.heap.size w1 (w1.alloc (.cells (madeCells #[.int .u8 0] sz) 5)) := (Below.refl _ _).alloc (Nat.le_refl _) _
  generalize w1.alloc (.cells (madeCells #[.int .u8 0] sz) 5) = w2 at hR hB ⊢
  clear hmk c0 c1 c3 hwi
  generalize hg : w1.heap.size = g at h hR hB
  have HGE := Lib.hid hg
  clear hg
  go_loopw [24] (fun i wr => ∃ k : Nat, k ≤ n ∧ i = .int .i64 k ∧ Bt.Row wr g sz (Bt.pk k X q) ∧ Below g w1 wr ∧ g < wr.heap.size) (fun i _ => n - (intOf i).toNat)
  case atStart => exact ⟨0, by omega, rfl, by rw [Bt.pk_zero]; exact hR, hB, hR.lt⟩
  case round =>
    obtain ⟨k, hk, rfl, hRk, hBk, hlt⟩ := hrel
    have HR := Lib.hid hRk
    clear hR hB hRk
    by_cases hl : k < n
    · rcases h with h | ⟨b, o, rfl, hb, h⟩
      · omega
      · have hc : wr.cell? ⟨b, o + k, none⟩ = some (.int .u64 ((X k : Nat) : Int)) := (hBk.cell (p := ⟨b, o + k, none⟩) hb).trans (h k hl)
        have hkl : (k : Int) < (n : Int) := by omega
        have hk0 : (0 : Int) ≤ (k : Int) := by omega
        obtain ⟨fn, fq, f64, fm, f8, fz, fX, fw⟩ := HF.out
        have hk2 : (k : Int) < 140737488355328 := by omega
        obtain ⟨p, ep⟩ : ∃ p, p = k * q := ⟨_, rfl⟩
        have hpi : (k : Int) * (q : Int) = (p : Int) := by rw [ep]; simp
        have hpq : p + q ≤ m := by
          have : (k + 1) * q ≤ n * q := Nat.mul_le_mul_right _ hl
          rw [Nat.succ_mul] at this
          omega
        have hp2 : p ≤ 1125899906842624 := by omega
        have cp := Bt.put_c g sz sz (Bt.pk k X q) p (X k) wr HR.out (Nat.lt_of_lt_of_le (fw k hl) (Nat.pow_le_pow_right (by decide) (by omega))) (fX k) (by omega) (by omega)
        have HP0 : Hid (Bt.pk (k + 1) X q = Bt.putF (Bt.pk k X q) p (X k)) := Lib.hid (by rw [ep]; exact Bt.pk_put X q k (fw k hl))
        clear h fn fq f64 fm f8 fz fX fw hpq ep
        go_wp2_with fail
        refine cp.mono ?_
        rintro e w3 ⟨rfl, hP⟩
        have hB3 := hBk.trans (hP.below (Nat.le_refl _) (by omega))
        have hs3 : g < w3.heap.size := hP.1.lt
        have HP := Lib.hid hP
        clear hP hlt hBk hc cp
        go_wp2
        go_roundw
        case rel => exact ⟨k + 1, by omega, by simp, by rw [HP0.out]; exact HP.out.1, hB3, hs3⟩
        case measure => simp [intOf]; omega
    · obtain rfl : k = n := by omega
      have hkl : ¬ (k : Int) < (k : Int) := by omega
      have hs := HR.out.string (c := sz)
      go_wp2
      go_ret2
      exact ⟨rfl, by rw [HGE.out]; exact hBk⟩
end Go.Proofs.YtcognkgabdaneaaGreatDoor

namespace Go.Proofs.YtcognkgabdaneaaGreatDoor
open Go.RowKit
set_option maxHeartbeats 1000000 in
theorem Bt.pack_c (v : Value) (n : Nat) (X : Nat → Nat) (z : Int) (w : World) (h : Bt.Sl w v n (Bt.nv X)) (hX : ∀ i, X i < 2 ^ 64) (hn : n ≤ 17592186044416) :
    Calls Tryz.prog 133 #[v, .int .i64 z] w fun e w' => e = .returned (Bt.packV n X z) ∧ Below w.heap.size w w' := by
  by_cases hz : 0 ≤ z ∧ z ≤ 64
  · obtain ⟨q, rfl⟩ := Int.eq_ofNat_of_zero_le hz.1
    by_cases hw : q < Bt.wid n X
    · have e : Bt.packV n X (q : Int) = .tuple #[.string ⟨#[]⟩, .int .i64 4] := by
        unfold Bt.packV
        rw [if_pos hz, if_pos (by simpa using hw)]
      rw [e]
      have c0 := Bt.rightWidth_c q
      rw [decide_eq_true hz] at c0
      have c3 := Bt.width_c v n X w h hX (by omega)
      have hwi : (q : Int) < ((Bt.wid n X : Nat) : Int) := by omega
      obtain ⟨a, c, rfl, h⟩ := h
      clear h hX hn hz hw e
      go_enter Tryz.func133, Tryz.ntmps133
      go_wp2_with fail
      refine (c0 _).mono ?_
      rintro e w0 ⟨rfl, rfl⟩
      go_wp2_with fail
      refine c3.mono ?_
      rintro e w1 ⟨rfl, rfl⟩
      go_wp2
      go_ret2
      exact ⟨rfl, Below.refl _ _⟩
    · have e : Bt.packV n X (q : Int) = .tuple #[.string (Bt.bytes (Bt.need (n * q)) (Bt.pk n X q)), .int .i64 0] := by
        unfold Bt.packV
        rw [if_pos hz, if_neg (by simpa using hw)]
        rfl
      rw [e]
      exact Bt.pack_ok v n X q w h hX hn (by omega) (by omega)
  · have e : Bt.packV n X z = .tuple #[.string ⟨#[]⟩, .int .i64 1] := by
      unfold Bt.packV
      rw [if_neg hz]
    rw [e]
    have c0 := Bt.rightWidth_c z
    rw [decide_eq_false hz] at c0
    obtain ⟨a, c, rfl, h⟩ := h
    clear h hX hn hz e
    go_enter Tryz.func133, Tryz.ntmps133
    go_wp2_with fail
    refine (c0 _).mono ?_
    rintro e w0 ⟨rfl, rfl⟩
    go_wp2
    go_ret2
    exact ⟨rfl, Below.refl _ _⟩
/-- Which error truths, numbers have, and how many there are. -/
def Bt.utE (s : ByteArray) (z : Int) : Nat := if 0 ≤ z ∧ z ≤ 65536 then Bt.chk s z.toNat else 1
def Bt.utN (s : ByteArray) (z : Int) : Nat := if Bt.utE s z = 0 then z.toNat else 0
def Bt.upE (s : ByteArray) (z q : Int) : Nat := if (0 ≤ q ∧ q ≤ 64) ∧ 0 ≤ z ∧ z ≤ 65536 then Bt.chk s (z.toNat * q.toNat) else 1
def Bt.upN (s : ByteArray) (z q : Int) : Nat := if Bt.upE s z q = 0 then z.toNat else 0
/-- The numbers of so many bits in bytes. -/
def Bt.nums (s : ByteArray) (q : Nat) (i : Nat) : Nat := Bt.num q (fun j => Bt.bit s (i * q + j))
theorem Bt.Sl.nil (w : World) (f : Nat → Value) : Bt.Sl w (.slice none 0 0) 0 f := ⟨none, 0, rfl, .inl rfl⟩
theorem Bt.Sl.row {w : World} {g n c : Nat} {t : TypeId} {f : Nat → Value} (h : w.rowIs g t n f) : Bt.Sl w (.slice (some ⟨g, 0, none⟩) n c) n f :=
  ⟨_, c, rfl, .inr ⟨g, 0, rfl, h.lt, fun i hi => by rw [Nat.zero_add]; exact h.cell hi⟩⟩
theorem Bt.infoB : (Tryz.prog.info? 4).map (fun i => (i.zero, i.size, i.bytes)) = some (some (.bool false), 1, 1) := by kernel_rfl
theorem Bt.infoU : (Tryz.prog.info? 49).map (fun i => (i.zero, i.size, i.bytes)) = some (some (.int .u64 0), 1, 8) := by kernel_rfl
theorem Bt.num_one (g : Nat → Bool) : Bt.num 1 g = (g 0).toNat := by simp [Bt.num]
/-- So far k of n values are laid. -/
def Bt.upTo (k : Nat) (f : Nat → Value) (z : Value) (i : Nat) : Value := if i < k then f i else z
theorem Bt.upTo_next {w : World} {g n k : Nat} {t : TypeId} {f : Nat → Value} {z u : Value} (h : w.rowIs g t n (Bt.upTo k f z)) (hu : u = f k) : (w.setCell ⟨g, k, none⟩ u).rowIs g t n (Bt.upTo (k + 1) f z) := by
  refine (World.rowIs.set h k u).congr fun i _ => ?_
  unfold Bt.upTo
  by_cases e : i = k
  · subst e
    rw [if_pos rfl, if_pos (by omega), hu]
  · rw [if_neg e]
    by_cases h2 : i < k
    · rw [if_pos h2, if_pos (by omega)]
    · rw [if_neg h2, if_neg (by omega)]
theorem Bt.below_set {w : World} {g i B : Nat} (hB : B ≤ g) (u : Value) : Below B w (w.setCell ⟨g, i, none⟩ u) :=
  ⟨rfl, rfl, rfl, by simp [World.setCell], fun k hk => Below.heap_setCell _ _ _ _ (by show k ≠ g; omega)⟩
set_option maxHeartbeats 1000000 in
theorem Bt.untruths_c (s : ByteArray) (z : Int) (w : World) (hs : s.size ≤ 140737488355328) :
    Calls Tryz.prog 48 #[.string s, .int .i64 z] w fun e w' => ∃ v, e = .returned (.tuple #[v, .int .i64 (Bt.utE s z : Nat)]) ∧ Bt.Sl w' v (Bt.utN s z) (Bt.bv (Bt.bit s)) ∧ Below w.heap.size w w' := by
  have c0 := Bt.rightCount_c z
  by_cases hz : 0 ≤ z ∧ z ≤ 65536
  · rw [decide_eq_true hz] at c0
    obtain ⟨n, rfl⟩ := Int.eq_ofNat_of_zero_le hz.1
    have hn : n ≤ 65536 := by omega
    have c1 := fun w => Bt.check_c s n w (by omega) (by omega)
    have e1 : Bt.utE s (n : Int) = Bt.chk s n := by unfold Bt.utE; rw [if_pos hz]; rfl
    have e2 : Bt.utN s (n : Int) = if Bt.chk s n = 0 then n else 0 := by unfold Bt.utN; rw [e1]; rfl
    rw [e1, e2]
    by_cases hc : Bt.chk s n = 0
    · rw [if_pos hc]
      obtain ⟨hsz, _⟩ := Bt.chk_ok hc
      have hroom := (Bt.need_room n).1
      rw [hc] at c1 ⊢
      have hmk := run_make_row' (P := Tryz.prog) 44 4 (.bool false) 1 Tryz.underlying44 Bt.infoB rfl .i64 .i64 n (by omega) (by omega)
      have HS : Hid (n ≤ 8 * s.size) := Lib.hid (by omega)
      clear hsz hroom hc e1 e2 hz
      go_enter Tryz.func48, Tryz.ntmps48
      go_wp2_with fail
      refine (c0 _).mono ?_
      rintro e w0 ⟨rfl, rfl⟩
      go_wp2_with fail
      refine (c1 _).mono ?_
      rintro e w1 ⟨rfl, rfl⟩
      go_wp2_with fail
      have hR : (w1.alloc (.cells (madeCells #[.bool false] n) 4)).rowIs w1.heap.size 4 n (Bt.upTo 0 (Bt.bv (Bt.bit s)) (.bool false)) := (World.rowIs_made w1 (.bool false) n 4).congr fun i _ => by unfold Bt.upTo; rw [if_neg (by omega)]
      have hB : Below w1.heap.size w1 (w1.alloc (.cells (madeCells #[.bool false] n) 4)) := (Below.refl _ _).alloc (Nat.le_refl _) _
      generalize w1.alloc (.cells (madeCells #[.bool false] n) 4) = w2 at hR hB ⊢
      clear hmk c0 c1
      generalize hg : w1.heap.size = g at hR hB
      have HGE := Lib.hid hg
      clear hg
      go_loopw [21] (fun i wr => ∃ k : Nat, k ≤ n ∧ i = .int .i64 k ∧ wr.rowIs g 4 n (Bt.upTo k (Bt.bv (Bt.bit s)) (.bool false)) ∧ Below g w1 wr) (fun i _ => n - (intOf i).toNat)
      case atStart => exact ⟨0, by omega, rfl, hR, hB⟩
      case round =>
        obtain ⟨k, hk, rfl, hRk, hBk⟩ := hrel
        have HR := Lib.hid hRk
        clear hR hB hRk
        by_cases hl : k < n
        · have hkl : (k : Int) < (n : Int) := by omega
          have hk0 : (0 : Int) ≤ (k : Int) := by omega
          have hf := HR.out.frozen k
          have cg := fun w => Bt.get_c s k 1 w (by omega) (by have := HS.out; omega) (by omega)
          rw [Bt.num_one] at cg
          simp only [Nat.add_zero] at cg
          have hcl := HR.out.cell hl
          cases hb : Bt.bit s k
          · rw [hb] at cg
            have HBT := Lib.hid hb
            clear hb
            go_wp2_with fail
            refine (cg _).mono ?_
            rintro e w3 ⟨rfl, rfl⟩
            go_wp2
            go_roundw
            case rel => exact ⟨k + 1, by omega, by simp, Bt.upTo_next HR.out (by unfold Bt.bv; rw [HBT.out]), hBk.trans (Bt.below_set (Nat.le_refl _) _)⟩
            case measure => simp [intOf]; omega
          · rw [hb] at cg
            have HBT := Lib.hid hb
            clear hb
            go_wp2_with fail
            refine (cg _).mono ?_
            rintro e w3 ⟨rfl, rfl⟩
            go_wp2
            go_roundw
            case rel => exact ⟨k + 1, by omega, by simp, Bt.upTo_next HR.out (by unfold Bt.bv; rw [HBT.out]), hBk.trans (Bt.below_set (Nat.le_refl _) _)⟩
            case measure => simp [intOf]; omega
        · obtain rfl : k = n := by omega
          have hkl : ¬ (k : Int) < (k : Int) := by omega
          go_wp2
          go_ret2
          exact ⟨_, rfl, Bt.Sl.row (HR.out.congr fun i hi => by unfold Bt.upTo; rw [if_pos hi]), by rw [HGE.out]; exact hBk⟩
    · rw [if_neg hc]
      generalize Bt.chk s n = C at hc c1 ⊢
      have hC : ((C : Int) != 0) = true := by rw [bne_iff_ne]; omega
      clear e1 e2 hz hc
      go_enter Tryz.func48, Tryz.ntmps48
      go_wp2_with fail
      refine (c0 _).mono ?_
      rintro e w0 ⟨rfl, rfl⟩
      go_wp2_with fail
      refine (c1 _).mono ?_
      rintro e w1 ⟨rfl, rfl⟩
      go_wp2
      go_ret2
      exact ⟨_, rfl, Bt.Sl.nil _ _, Below.refl _ _⟩
  · rw [decide_eq_false hz] at c0
    have e1 : Bt.utE s z = 1 := by unfold Bt.utE; rw [if_neg hz]
    have e2 : Bt.utN s z = 0 := by unfold Bt.utN; rw [e1]; rfl
    rw [e1, e2]
    clear e1 e2 hz
    go_enter Tryz.func48, Tryz.ntmps48
    go_wp2_with fail
    refine (c0 _).mono ?_
    rintro e w0 ⟨rfl, rfl⟩
    go_wp2
    go_ret2
    exact ⟨_, rfl, Bt.Sl.nil _ _, Below.refl _ _⟩
set_option maxHeartbeats 1000000 in
theorem Bt.unpack_c (s : ByteArray) (z y : Int) (w : World) (hs : s.size ≤ 140737488355328) :
    Calls Tryz.prog 136 #[.string s, .int .i64 z, .int .i64 y] w fun e w' => ∃ v, e = .returned (.tuple #[v, .int .i64 (Bt.upE s z y : Nat)]) ∧ Bt.Sl w' v (Bt.upN s z y) (Bt.nv (Bt.nums s y.toNat)) ∧ Below w.heap.size w w' := by
  have ca := Bt.rightWidth_c y
  have c0 := Bt.rightCount_c z
  by_cases hy : 0 ≤ y ∧ y ≤ 64
  · rw [decide_eq_true hy] at ca
    by_cases hz : 0 ≤ z ∧ z ≤ 65536
    · rw [decide_eq_true hz] at c0
      obtain ⟨n, rfl⟩ := Int.eq_ofNat_of_zero_le hz.1
      obtain ⟨q, rfl⟩ := Int.eq_ofNat_of_zero_le hy.1
      have hn : n ≤ 65536 := by omega
      have hq : q ≤ 64 := by omega
      have hmul := Bt.mul_le n q hq
      have e1 : Bt.upE s (n : Int) (q : Int) = Bt.chk s (n * q) := by unfold Bt.upE; rw [if_pos ⟨hy, hz⟩]; rfl
      have e2 : Bt.upN s (n : Int) (q : Int) = if Bt.chk s (n * q) = 0 then n else 0 := by unfold Bt.upN; rw [e1]; rfl
      rw [e1, e2, Int.toNat_natCast]
      generalize hm : n * q = m at hmul ⊢
      have hmi : (n : Int) * (q : Int) = (m : Int) := by rw [← hm]; simp
      have hmm : m ≤ 4194304 := by omega
      have c1 := fun w => Bt.check_c s m w (by omega) (by omega)
      by_cases hc : Bt.chk s m = 0
      · rw [if_pos hc]
        obtain ⟨hsz, _⟩ := Bt.chk_ok hc
        have hroom := (Bt.need_room m).1
        rw [hc] at c1 ⊢
        have hmk := run_make_row' (P := Tryz.prog) 121 49 (.int .u64 0) 8 Tryz.underlying121 Bt.infoU rfl .i64 .i64 n (by omega) (by omega)
        have HS : Hid (m ≤ 8 * s.size ∧ n * q = m ∧ q ≤ 64) := Lib.hid ⟨by omega, hm, hq⟩
        clear hsz hroom hc e1 e2 hz hy hm hmul
        go_enter Tryz.func136, Tryz.ntmps136
        go_wp2_with fail
        refine (ca _).mono ?_
        rintro e w0 ⟨rfl, rfl⟩
        go_wp2_with fail
        refine (c0 _).mono ?_
        rintro e w0 ⟨rfl, rfl⟩
        go_wp2_with fail
        refine (c1 _).mono ?_
        rintro e w1 ⟨rfl, rfl⟩
        go_wp2_with fail
        have hR : (w1.alloc (.cells (madeCells #[.int .u64 0] n) 49)).rowIs w1.heap.size 49 n (Bt.upTo 0 (Bt.nv (Bt.nums s q)) (.int .u64 0)) := (World.rowIs_made w1 (.int .u64 0) n 49).congr fun i _ => by unfold Bt.upTo; rw [if_neg (by omega)]
        have hB : Below w1.heap.size w1 (w1.alloc (.cells (madeCells #[.int .u64 0] n) 49)) := (Below.refl _ _).alloc (Nat.le_refl _) _
        generalize w1.alloc (.cells (madeCells #[.int .u64 0] n) 49) = w2 at hR hB ⊢
        clear hmk c0 c1 ca
        generalize hg : w1.heap.size = g at hR hB
        have HGE := Lib.hid hg
        clear hg
        go_loopw [30] (fun i wr => ∃ k : Nat, k ≤ n ∧ i = .int .i64 k ∧ wr.rowIs g 49 n (Bt.upTo k (Bt.nv (Bt.nums s q)) (.int .u64 0)) ∧ Below g w1 wr) (fun i _ => n - (intOf i).toNat)
        case atStart => exact ⟨0, by omega, rfl, hR, hB⟩
        case round =>
          obtain ⟨k, hk, rfl, hRk, hBk⟩ := hrel
          have HR := Lib.hid hRk
          clear hR hB hRk
          by_cases hl : k < n
          · have hkl : (k : Int) < (n : Int) := by omega
            have hk0 : (0 : Int) ≤ (k : Int) := by omega
            have hf := HR.out.frozen k
            obtain ⟨p, ep⟩ : ∃ p, p = k * q := ⟨_, rfl⟩
            have hpi : (k : Int) * (q : Int) = (p : Int) := by rw [ep]; simp
            obtain ⟨f1, f2, f3⟩ := HS.out
            have hpq : p + q ≤ m := by
              have : (k + 1) * q ≤ n * q := Nat.mul_le_mul_right _ hl
              rw [Nat.succ_mul] at this
              omega
            have cg := fun w => Bt.get_c s p q w f3 (by omega) (by omega)
            have hp2 : p ≤ 4194304 := by omega
            have hcl := HR.out.cell hl
            have e3 : Bt.num q (fun j => Bt.bit s (p + j)) = Bt.nums s q k := by unfold Bt.nums; rw [ep]
            rw [e3] at cg
            clear f1 f2 f3 hpq ep e3
            go_wp2_with fail
            refine (cg _).mono ?_
            rintro e w3 ⟨rfl, rfl⟩
            go_wp2
            go_roundw
            case rel => exact ⟨k + 1, by omega, by simp, Bt.upTo_next HR.out rfl, hBk.trans (Bt.below_set (Nat.le_refl _) _)⟩
            case measure => simp [intOf]; omega
          · obtain rfl : k = n := by omega
            have hkl : ¬ (k : Int) < (k : Int) := by omega
            go_wp2
            go_ret2
            exact ⟨_, rfl, Bt.Sl.row (HR.out.congr fun i hi => by unfold Bt.upTo; rw [if_pos hi]), by rw [HGE.out]; exact hBk⟩
      · rw [if_neg hc]
        generalize Bt.chk s m = C at hc c1 ⊢
        have hC : ((C : Int) != 0) = true := by rw [bne_iff_ne]; omega
        clear e1 e2 hz hy hc hm hmul hq hn
        go_enter Tryz.func136, Tryz.ntmps136
        go_wp2_with fail
        refine (ca _).mono ?_
        rintro e w0 ⟨rfl, rfl⟩
        go_wp2_with fail
        refine (c0 _).mono ?_
        rintro e w0 ⟨rfl, rfl⟩
        go_wp2_with fail
        refine (c1 _).mono ?_
        rintro e w1 ⟨rfl, rfl⟩
        go_wp2
        go_ret2
        exact ⟨_, rfl, Bt.Sl.nil _ _, Below.refl _ _⟩
    · rw [decide_eq_false hz] at c0
      have e1 : Bt.upE s z y = 1 := by unfold Bt.upE; rw [if_neg (by rintro ⟨_, h⟩; exact hz h)]
      have e2 : Bt.upN s z y = 0 := by unfold Bt.upN; rw [e1]; rfl
      rw [e1, e2]
      clear e1 e2 hz hy
      go_enter Tryz.func136, Tryz.ntmps136
      go_wp2_with fail
      refine (ca _).mono ?_
      rintro e w0 ⟨rfl, rfl⟩
      go_wp2_with fail
      refine (c0 _).mono ?_
      rintro e w0 ⟨rfl, rfl⟩
      go_wp2
      go_ret2
      exact ⟨_, rfl, Bt.Sl.nil _ _, Below.refl _ _⟩
  · rw [decide_eq_false hy] at ca
    have e1 : Bt.upE s z y = 1 := by unfold Bt.upE; rw [if_neg (by rintro ⟨h, _⟩; exact hy h)]
    have e2 : Bt.upN s z y = 0 := by unfold Bt.upN; rw [e1]; rfl
    rw [e1, e2]
    clear e1 e2 hy
    go_enter Tryz.func136, Tryz.ntmps136
    go_wp2_with fail
    refine (ca _).mono ?_
    rintro e w0 ⟨rfl, rfl⟩
    go_wp2
    go_ret2
    exact ⟨_, rfl, Bt.Sl.nil _ _, Below.refl _ _⟩
end Go.Proofs.YtcognkgabdaneaaGreatDoor
