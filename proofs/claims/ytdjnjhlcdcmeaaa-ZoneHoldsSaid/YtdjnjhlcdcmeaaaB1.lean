/-
  The plain mathematics of package bits: numbers out of bits, bits out of bytes, packed numbers. No program.
-/
import Derived.Laws.MathBits
import Derived.Laws.BitsLemmas
namespace Go.Proofs.Ytdjnjhlcdcmeaaa.Bt
open Go
/-- The number whose bit j is g j, of w bits. -/
def num : Nat → (Nat → Bool) → Nat
  | 0, _ => 0
  | w + 1, g => num w g + (g w).toNat * 2 ^ w
theorem num_lt (w : Nat) (g : Nat → Bool) : num w g < 2 ^ w := by
  induction w with
  | zero => simp [num]
  | succ w ih =>
    have : (g w).toNat * 2 ^ w ≤ 2 ^ w := by cases g w <;> simp
    rw [Nat.pow_succ]
    unfold num
    omega
theorem testBit_num (w : Nat) (g : Nat → Bool) (j : Nat) : (num w g).testBit j = (decide (j < w) && g j) := by
  induction w with
  | zero => simp [num]
  | succ w ih =>
    have e : num (w + 1) g = 2 ^ w * (g w).toNat + num w g := by
      show num w g + (g w).toNat * 2 ^ w = _
      rw [Nat.mul_comm, Nat.add_comm]
    rw [e, Nat.testBit_two_pow_mul_add _ (num_lt w g), ih]
    by_cases h : j < w
    · simp [h, Nat.lt_succ_of_lt h]
    · rw [if_neg h]
      by_cases h2 : j = w
      · subst h2
        cases g j <;> simp
      · have h3 : ¬ j < w + 1 := by omega
        have h4 : (g w).toNat < 2 ^ (j - w) := Nat.lt_of_le_of_lt (Bool.toNat_le _) (Nat.one_lt_two_pow (by omega))
        rw [Nat.testBit_lt_two_pow h4]
        simp [h3]
theorem num_is {w n : Nat} {g : Nat → Bool} (hn : n < 2 ^ w) (h : ∀ j, j < w → n.testBit j = g j) : num w g = n := by
  refine Nat.eq_of_testBit_eq fun j => ?_
  rw [testBit_num]
  by_cases hj : j < w
  · rw [h j hj]; simp [hj]
  · rw [Nat.testBit_lt_two_pow (Nat.lt_of_lt_of_le hn (Nat.pow_le_pow_right (by decide) (by omega)))]
    simp [hj]
theorem num_congr {w : Nat} {g h : Nat → Bool} (e : ∀ j, j < w → g j = h j) : num w g = num w h := by
  refine num_is (num_lt w h) fun j hj => ?_
  rw [testBit_num, e j hj]
  simp [hj]
theorem num_add {w : Nat} {g : Nat → Bool} {j : Nat} (hj : j < w) (hg : g j = false) : num w g + 2 ^ j = num w (fun i => g i || decide (i = j)) := by
  induction w with
  | zero => omega
  | succ w ih =>
    unfold num
    by_cases e : j = w
    · subst e
      have : num j g = num j (fun i => g i || decide (i = j)) := num_congr fun i hi => by
        have : i ≠ j := by omega
        simp [this]
      rw [← this, hg]
      simp
    · rw [← ih (by omega)]
      have : ¬ w = j := by omega
      simp [this]
      omega
/-- A byte of a stream of bits. -/
def oct (F : Nat → Bool) (i : Nat) : Nat := num 8 (fun j => F (8 * i + j))
theorem oct_lt (F : Nat → Bool) (i : Nat) : oct F i < 256 := num_lt 8 _
theorem oct_congr {F G : Nat → Bool} {i : Nat} (e : ∀ j, j < 8 → F (8 * i + j) = G (8 * i + j)) : oct F i = oct G i := num_congr e
theorem or_oct (g : Nat → Bool) (n k : Nat) : (num 8 g ||| (n * 2 ^ k % 256)) = num 8 (fun j => g j || (decide (k ≤ j) && n.testBit (j - k))) := by
  refine (num_is (Nat.or_lt_two_pow (n := 8) (num_lt 8 _) (Nat.mod_lt _ (by decide))) fun j hj => ?_).symm
  rw [Nat.testBit_or, testBit_num, Nat.testBit_mod_two_pow, Nat.testBit_mul_two_pow]
  simp [hj]
/-- What a round of 'put' makes of the bits. -/
def laid (F : Nat → Bool) (at_ n : Nat) (x : Nat) : Bool := F x || (decide (x / 8 = at_ / 8) && (decide (at_ ≤ x) && n.testBit (x - at_)))
theorem laid_here (F : Nat → Bool) (at_ n : Nat) : (oct F (at_ / 8) ||| (n * 2 ^ (at_ % 8) % 256)) = oct (laid F at_ n) (at_ / 8) := by
  unfold oct
  rw [or_oct]
  refine num_congr fun j hj => ?_
  unfold laid
  have e1 : (8 * (at_ / 8) + j) / 8 = at_ / 8 := by omega
  have e2 : decide (at_ ≤ 8 * (at_ / 8) + j) = decide (at_ % 8 ≤ j) := by
    rw [decide_eq_decide]; omega
  have e3 : 8 * (at_ / 8) + j - at_ = j - at_ % 8 := by omega
  rw [e1, e2, e3]
  simp
theorem laid_far (F : Nat → Bool) (at_ n i : Nat) (h : i ≠ at_ / 8) : oct F i = oct (laid F at_ n) i := by
  refine oct_congr fun j hj => ?_
  unfold laid
  have e1 : ¬ (8 * i + j) / 8 = at_ / 8 := by omega
  simp [e1]
/-- What 'put' makes of the bits. -/
def putF (F : Nat → Bool) (at_ n : Nat) (x : Nat) : Bool := F x || (decide (at_ ≤ x) && n.testBit (x - at_))
theorem putF_next (F : Nat → Bool) (at_ n : Nat) (x : Nat) : putF F at_ n x = putF (laid F at_ n) (at_ + (8 - at_ % 8)) (n / 2 ^ (8 - at_ % 8)) x := by
  unfold putF laid
  rw [Nat.testBit_div_two_pow]
  by_cases h1 : at_ ≤ x
  · by_cases h2 : x / 8 = at_ / 8
    · have h3 : ¬ at_ + (8 - at_ % 8) ≤ x := by omega
      simp [h1, h2, h3]
    · have h3 : at_ + (8 - at_ % 8) ≤ x := by omega
      have e : x - (at_ + (8 - at_ % 8)) + (8 - at_ % 8) = x - at_ := by omega
      simp [h1, h2, h3, e]
  · have h3 : ¬ at_ + (8 - at_ % 8) ≤ x := by omega
    simp [h1, h3]
theorem putF_zero (F : Nat → Bool) (at_ : Nat) : putF F at_ 0 = F := by
  funext x
  simp [putF]
theorem put_room {sz at_ n : Nat} (hn : n < 2 ^ (8 * sz - at_)) (h0 : 0 < n) : at_ < 8 * sz := by
  rcases Nat.lt_or_ge at_ (8 * sz) with h | h
  · exact h
  · rw [Nat.sub_eq_zero_of_le h] at hn
    omega
theorem put_less {sz at_ n : Nat} (hn : n < 2 ^ (8 * sz - at_)) (h0 : 0 < n) : n / 2 ^ (8 - at_ % 8) < 2 ^ (8 * sz - (at_ + (8 - at_ % 8))) := by
  have hr := put_room hn h0
  rw [Nat.div_lt_iff_lt_mul (Nat.two_pow_pos _), ← Nat.pow_add]
  have e : 8 * sz - (at_ + (8 - at_ % 8)) + (8 - at_ % 8) = 8 * sz - at_ := by omega
  rw [e]
  exact hn
theorem put_down {n k : Nat} (h0 : 0 < n) : n / 2 ^ (8 - k % 8) < n := Nat.div_lt_self h0 (Nat.one_lt_two_pow (by omega))
/-- A bit of bytes. -/
def bit (s : ByteArray) (k : Nat) : Bool := (s.data.toList.getD (k / 8) 0).toNat.testBit (k % 8)
theorem length_data (s : ByteArray) : s.data.toList.length = s.size := by rw [Array.length_toList]; rfl
theorem at_getD (s : ByteArray) (k : Nat) (h : k < s.size) : s[k] = s.data.toList.getD k 0 := by
  have h2 : k < s.data.toList.length := by rw [length_data]; exact h
  rw [List.getD, List.getElem?_eq_getElem h2]; rfl
theorem bit_at (s : ByteArray) (k : Nat) (h : k / 8 < s.size) : bit s k = s[k / 8].toNat.testBit (k % 8) := by rw [bit, at_getD s _ h]
theorem bit_out (s : ByteArray) (k : Nat) (h : s.size ≤ k / 8) : bit s k = false := by
  unfold bit
  rw [List.getD, List.getElem?_eq_none (by rw [length_data]; exact h)]
  simp
/-- The bytes of a stream of bits. -/
def bytes (sz : Nat) (F : Nat → Bool) : ByteArray := ⟨((List.range sz).map fun i => UInt8.ofNat (oct F i)).toArray⟩
theorem size_bytes (sz : Nat) (F : Nat → Bool) : (bytes sz F).size = sz := by
  rw [← length_data]; simp [bytes]
theorem toNat_oct (F : Nat → Bool) (i : Nat) : (UInt8.ofNat (oct F i)).toNat = oct F i := by
  have := oct_lt F i
  simp [UInt8.toNat_ofNat']; omega
theorem bit_bytes (sz : Nat) (F : Nat → Bool) (k : Nat) : bit (bytes sz F) k = (decide (k < 8 * sz) && F k) := by
  by_cases h : k < 8 * sz
  · have h2 : k / 8 < sz := by omega
    unfold bit bytes
    rw [List.getD, List.getElem?_map, List.getElem?_range h2]
    show (UInt8.ofNat (oct F (k / 8))).toNat.testBit (k % 8) = _
    rw [toNat_oct, oct, testBit_num]
    have e : 8 * (k / 8) + k % 8 = k := by omega
    have e2 : k % 8 < 8 := by omega
    simp [h, e, e2]
  · rw [bit_out _ _ (by rw [size_bytes]; omega)]
    simp [h]
theorem bytes_congr {sz : Nat} {F G : Nat → Bool} (e : ∀ x, x < 8 * sz → F x = G x) : bytes sz F = bytes sz G := by
  unfold bytes
  congr 2
  refine List.map_congr_left fun i hi => ?_
  rw [List.mem_range] at hi
  rw [oct_congr fun j hj => e _ (by omega)]
theorem bytes_bit (s : ByteArray) : bytes s.size (bit s) = s := by
  unfold bytes
  have e : ((List.range s.size).map fun i => UInt8.ofNat (oct (bit s) i)) = s.data.toList := by
    refine List.ext_getElem (by rw [length_data]; simp) fun i h1 h2 => ?_
    have h3 : i < s.size := by simpa using h1
    rw [List.getElem_map, List.getElem_range]
    have e2 : oct (bit s) i = (s.data.toList[i]).toNat := by
      refine num_is (s.data.toList[i]).toNat_lt fun j hj => ?_
      have e3 : (8 * i + j) / 8 = i := by omega
      have e4 : (8 * i + j) % 8 = j := by omega
      unfold bit
      rw [e3, e4, List.getD, List.getElem?_eq_getElem h2]
      rfl
    rw [e2]
    simp
  rw [e]
/-- Bytes are just their bits. -/
theorem bytes_of {s : ByteArray} {sz : Nat} {F : Nat → Bool} (hs : s.size = sz) (e : ∀ x, x < 8 * sz → F x = bit s x) : bytes sz F = s := by
  subst hs
  rw [bytes_congr e, bytes_bit]
/-- How many bytes so many bits need. -/
def need (n : Nat) : Nat := (n + 7) / 8
theorem need_room (n : Nat) : n ≤ 8 * need n ∧ 8 * need n < n + 8 := by unfold need; omega
/-- An unused bit of the last byte is not 0. -/
def dirty (s : ByteArray) (n : Nat) : Bool := (List.range (8 * need n)).any fun k => decide (n ≤ k) && bit s k
theorem dirty_iff (s : ByteArray) (n : Nat) : dirty s n = true ↔ ∃ k, k < 8 * need n ∧ n ≤ k ∧ bit s k = true := by
  unfold dirty
  rw [List.any_eq_true]
  constructor
  · rintro ⟨k, h1, h2⟩
    rw [List.mem_range] at h1
    simp at h2
    exact ⟨k, h1, h2.1, h2.2⟩
  · rintro ⟨k, h1, h2, h3⟩
    exact ⟨k, List.mem_range.2 h1, by simp [h2, h3]⟩
theorem dirty_none (s : ByteArray) (n : Nat) (h : n % 8 = 0) : dirty s n = false := by
  rw [Bool.eq_false_iff]
  intro e
  obtain ⟨k, h1, h2, _⟩ := (dirty_iff s n).1 e
  unfold need at h1
  omega
theorem clean {s : ByteArray} {n k : Nat} (h : dirty s n = false) (h1 : k < 8 * need n) (h2 : n ≤ k) : bit s k = false := by
  rw [Bool.eq_false_iff]
  intro e
  rw [(dirty_iff s n).2 ⟨k, h1, h2, e⟩] at h
  cases h
theorem dirty_last (s : ByteArray) (n : Nat) (h : 0 < n % 8) (hs : s.size = need n) (hl : s.size - 1 < s.size) : dirty s n = decide (s[s.size - 1].toNat / 2 ^ (n % 8) ≠ 0) := by
  have hlast : s.size - 1 = n / 8 := by unfold need at hs; omega
  rw [Bool.eq_iff_iff, dirty_iff, decide_eq_true_iff]
  have hb := s[s.size - 1].toNat_lt
  constructor
  · rintro ⟨k, h1, h2, h3⟩ h0
    have hk : k / 8 = n / 8 := by unfold need at h1; omega
    unfold bit at h3
    rw [hk, ← hlast, ← at_getD s _ hl] at h3
    have h5 : (s[s.size - 1].toNat / 2 ^ (n % 8)).testBit (k % 8 - n % 8) = true := by
      rw [Nat.testBit_div_two_pow]
      have : k % 8 - n % 8 + n % 8 = k % 8 := by omega
      rw [this]
      exact h3
    rw [h0] at h5
    simp at h5
  · intro h0
    obtain ⟨j, hj⟩ := Nat.exists_testBit_of_ne_zero h0
    rw [Nat.testBit_div_two_pow] at hj
    have hj8 : j + n % 8 < 8 := by
      rcases Nat.lt_or_ge (j + n % 8) 8 with h | h
      · exact h
      · rw [Nat.testBit_lt_two_pow (Nat.lt_of_lt_of_le (by simpa using hb) (Nat.pow_le_pow_right (n := 2) (by decide) h))] at hj
        cases hj
    refine ⟨8 * (n / 8) + (j + n % 8), by unfold need; omega, by omega, ?_⟩
    unfold bit
    have e1 : (8 * (n / 8) + (j + n % 8)) / 8 = n / 8 := by omega
    have e2 : (8 * (n / 8) + (j + n % 8)) % 8 = j + n % 8 := by omega
    rw [e1, e2, ← hlast, ← at_getD s _ hl]
    exact hj
/-- Which error bytes have, as so many bits. -/
def chk (s : ByteArray) (n : Nat) : Nat := if s.size < need n then 2 else if need n < s.size then 3 else if dirty s n = true then 5 else 0
theorem chk_ok {s : ByteArray} {n : Nat} (h : chk s n = 0) : s.size = need n ∧ dirty s n = false := by
  unfold chk at h
  split at h
  · cases h
  · split at h
    · cases h
    · split at h
      · cases h
      · rename_i h1 h2 h3
        exact ⟨by omega, by simpa using h3⟩
theorem chk_is {s : ByteArray} {n : Nat} (h : s.size = need n) (hd : dirty s n = false) : chk s n = 0 := by
  unfold chk
  rw [if_neg (by omega), if_neg (by omega), hd]
  rfl
/-- What 'get' has of the bits so far. -/
def Got (s : ByteArray) (at_ d n : Nat) : Prop := n < 2 ^ 64 ∧ ∀ j, n.testBit j = (decide (j < d) && (decide (j < 64) && bit s (at_ + j)))
theorem Got.zero (s : ByteArray) (at_ : Nat) : Got s at_ 0 0 := ⟨by decide, fun j => by simp⟩
theorem Got.next {s : ByteArray} {at_ d n : Nat} (h : Got s at_ d n) (hi : (at_ + d) / 8 < s.size) : Got s at_ (d + (8 - (at_ + d) % 8)) (n ||| (s[(at_ + d) / 8].toNat / 2 ^ ((at_ + d) % 8) * 2 ^ d % 2 ^ 64)) := by
  refine ⟨Nat.or_lt_two_pow h.1 (Nat.mod_lt _ (Nat.two_pow_pos _)), fun j => ?_⟩
  have hb := s[(at_ + d) / 8].toNat_lt
  rw [Nat.testBit_or, h.2 j, Nat.testBit_mod_two_pow, Nat.testBit_mul_two_pow, Nat.testBit_div_two_pow]
  by_cases h64 : j < 64
  · by_cases h1 : j < d
    · have h2 : j < d + (8 - (at_ + d) % 8) := by omega
      have h3 : ¬ d ≤ j := by omega
      simp [h64, h1, h2, h3]
    · have h3 : d ≤ j := by omega
      by_cases h2 : j < d + (8 - (at_ + d) % 8)
      · have e1 : (at_ + j) / 8 = (at_ + d) / 8 := by omega
        have e2 : (at_ + j) % 8 = j - d + (at_ + d) % 8 := by omega
        have e3 : bit s (at_ + j) = s[(at_ + d) / 8].toNat.testBit (j - d + (at_ + d) % 8) := by
          unfold bit
          rw [e1, e2, ← at_getD s _ hi]
        simp [h64, h1, h2, h3, e3]
      · have e : s[(at_ + d) / 8].toNat.testBit (j - d + (at_ + d) % 8) = false :=
          Nat.testBit_lt_two_pow (Nat.lt_of_lt_of_le (by simpa using hb) (Nat.pow_le_pow_right (n := 2) (by decide) (by omega : 8 ≤ j - d + (at_ + d) % 8)))
        simp [h64, h1, h2, h3, e]
  · simp [h64]
theorem Got.last {s : ByteArray} {at_ d n w : Nat} (h : Got s at_ d n) (hd : w ≤ d) (hw : w ≤ 64) : n &&& (2 ^ w - 1) = num w (fun j => bit s (at_ + j)) := by
  refine (num_is (Nat.and_lt_two_pow _ (Nat.sub_lt (Nat.two_pow_pos _) (by decide))) fun j hj => ?_).symm
  rw [Nat.testBit_and, h.2 j, Nat.testBit_two_pow_sub_one]
  have h1 : j < d := by omega
  have h2 : j < 64 := by omega
  simp [hj, h1, h2]
/-- All numbers' bits together. -/
def orN : Nat → (Nat → Nat) → Nat
  | 0, _ => 0
  | n + 1, X => orN n X ||| X n
theorem orN_lt (n : Nat) (X : Nat → Nat) (w : Nat) : orN n X < 2 ^ w ↔ ∀ i, i < n → X i < 2 ^ w := by
  induction n with
  | zero => simp [orN, Nat.two_pow_pos]
  | succ n ih =>
    constructor
    · intro h i hi
      have h1 : orN n X ≤ orN n X ||| X n := Nat.left_le_or
      have h2 : X n ≤ orN n X ||| X n := Nat.right_le_or
      unfold orN at h
      rcases Nat.lt_or_ge i n with h3 | h3
      · exact ih.1 (by omega) i h3
      · obtain rfl : i = n := by omega
        omega
    · intro h
      exact Nat.or_lt_two_pow (ih.2 fun i hi => h i (by omega)) (h n (by omega))
theorem bitLen_le (n w : Nat) : bitLen n ≤ w ↔ n < 2 ^ w := by
  have h := bitLen_spec n
  constructor
  · intro hw
    exact Nat.lt_of_lt_of_le h.1 (Nat.pow_le_pow_right (by decide) hw)
  · intro hw
    by_cases h0 : n = 0
    · simp [bitLen, h0]
    · rcases Nat.lt_or_ge w (bitLen n) with h1 | h1
      · have h2 := h.2 h0
        have h3 : 2 ^ w ≤ 2 ^ (bitLen n - 1) := Nat.pow_le_pow_right (by decide) (by omega)
        omega
      · exact h1
/-- The width of numbers. -/
def wid (n : Nat) (X : Nat → Nat) : Nat := bitLen (orN n X)
theorem wid_le (n : Nat) (X : Nat → Nat) (w : Nat) : wid n X ≤ w ↔ ∀ i, i < n → X i < 2 ^ w := by rw [wid, bitLen_le, orN_lt]
theorem wid_succ (n : Nat) (X : Nat → Nat) : wid (n + 1) X = max (wid n X) (bitLen (X n)) := by
  refine Nat.le_antisymm ?_ ?_
  · rw [wid_le]
    intro i hi
    rcases Nat.lt_or_ge i n with h | h
    · exact (wid_le n X _).1 (Nat.le_max_left _ _) i h
    · obtain rfl : i = n := by omega
      exact (bitLen_le _ _).1 (Nat.le_max_right _ _)
  · have h := (wid_le (n + 1) X _).1 (Nat.le_refl _)
    refine Nat.max_le.2 ⟨(wid_le n X _).2 fun i hi => h i (by omega), (bitLen_le _ _).2 (h n (by omega))⟩
theorem wid_64 {n : Nat} {X : Nat → Nat} (h : ∀ i, X i < 2 ^ 64) : wid n X ≤ 64 := (wid_le _ _ _).2 fun i _ => h i
/-- The bits of n numbers of w bits. -/
def pk (n : Nat) (X : Nat → Nat) (w : Nat) (x : Nat) : Bool := decide (x < n * w) && (X (x / w)).testBit (x % w)
theorem div_mid {w i j : Nat} (hj : j < w) : (i * w + j) / w = i ∧ (i * w + j) % w = j := by
  constructor
  · rw [Nat.mul_comm, Nat.mul_add_div (by omega), Nat.div_eq_of_lt hj]; rfl
  · rw [Nat.mul_comm, Nat.mul_add_mod, Nat.mod_eq_of_lt hj]
theorem pk_put (X : Nat → Nat) (w i : Nat) (h : X i < 2 ^ w) : pk (i + 1) X w = putF (pk i X w) (i * w) (X i) := by
  funext x
  unfold putF pk
  have e : (i + 1) * w = i * w + w := Nat.succ_mul i w
  by_cases h1 : x < i * w
  · have h2 : x < (i + 1) * w := by omega
    have h3 : ¬ i * w ≤ x := by omega
    simp [h1, h2, h3]
  · have h3 : i * w ≤ x := by omega
    by_cases h2 : x < (i + 1) * w
    · obtain ⟨d, m⟩ := div_mid (i := i) (j := x - i * w) (w := w) (by omega)
      have ex : i * w + (x - i * w) = x := by omega
      rw [ex] at d m
      simp [h1, h2, h3, d, m]
    · have : (X i).testBit (x - i * w) = false := Nat.testBit_lt_two_pow (Nat.lt_of_lt_of_le h (Nat.pow_le_pow_right (by decide) (by omega)))
      simp [h1, h2, h3, this]
theorem pk_zero (X : Nat → Nat) (w : Nat) : pk 0 X w = fun _ => false := by
  funext x
  simp [pk]
theorem pk_at {n : Nat} (X : Nat → Nat) (w i j : Nat) (hi : i < n) (hj : j < w) : pk n X w (i * w + j) = (X i).testBit j := by
  obtain ⟨d, m⟩ := div_mid (i := i) hj
  have h : i * w + j < n * w := by
    have : (i + 1) * w ≤ n * w := Nat.mul_le_mul_right _ hi
    rw [Nat.succ_mul] at this
    omega
  unfold pk
  rw [d, m]
  simp [h]
/-- Numbers out of the bits of numbers. -/
theorem num_pk {n : Nat} {X : Nat → Nat} {w i : Nat} (hi : i < n) (h : X i < 2 ^ w) : num w (fun j => pk n X w (i * w + j)) = X i := num_is h fun j hj => (pk_at X w i j hi hj).symm
theorem mid_lt {n w i j : Nat} (hi : i < n) (hj : j < w) : i * w + j < n * w := by
  have : (i + 1) * w ≤ n * w := Nat.mul_le_mul_right _ hi
  rw [Nat.succ_mul] at this
  omega
/-- Packed and unpacked again. -/
theorem back {n : Nat} {X : Nat → Nat} {w i : Nat} (hi : i < n) (h : X i < 2 ^ w) : num w (fun j => bit (bytes (need (n * w)) (pk n X w)) (i * w + j)) = X i := by
  rw [← num_pk hi h]
  refine num_congr fun j hj => ?_
  have h1 := mid_lt hi hj
  have h2 := (need_room (n * w)).1
  have h3 : i * w + j < 8 * need (n * w) := by omega
  rw [bit_bytes]
  simp [h3]
theorem chk_pack (n : Nat) (X : Nat → Nat) (w : Nat) : chk (bytes (need (n * w)) (pk n X w)) (n * w) = 0 := by
  refine chk_is (size_bytes _ _) ?_
  rw [Bool.eq_false_iff]
  intro e
  obtain ⟨k, h1, h2, h3⟩ := (dirty_iff _ _).1 e
  rw [bit_bytes] at h3
  have : ¬ k < n * w := by omega
  simp [pk, this] at h3
/-- Unpacked and packed again. -/
theorem only {s : ByteArray} {n w : Nat} (h : chk s (n * w) = 0) : bytes (need (n * w)) (pk n (fun i => num w (fun j => bit s (i * w + j))) w) = s := by
  obtain ⟨hs, hd⟩ := chk_ok h
  refine bytes_of hs fun x hx => ?_
  unfold pk
  by_cases h1 : x < n * w
  · have hw : 0 < w := by
      rcases Nat.eq_zero_or_pos w with h0 | h0
      · subst h0; simp at h1
      · exact h0
    have h2 : x % w < w := Nat.mod_lt _ hw
    have e : x / w * w + x % w = x := by rw [Nat.mul_comm]; exact Nat.div_add_mod x w
    simp [h1, testBit_num, h2, e]
  · rw [clean hd hx (by omega)]
    simp [h1]
/-- The bits of truths. -/
def tr (n : Nat) (T : Nat → Bool) (x : Nat) : Bool := decide (x < n) && T x
theorem chk_truths (n : Nat) (T : Nat → Bool) : chk (bytes (need n) (tr n T)) n = 0 := by
  refine chk_is (size_bytes _ _) ?_
  rw [Bool.eq_false_iff]
  intro e
  obtain ⟨k, h1, h2, h3⟩ := (dirty_iff _ _).1 e
  rw [bit_bytes] at h3
  have : ¬ k < n := by omega
  simp [tr, this] at h3
theorem bit_truths {n : Nat} (T : Nat → Bool) {i : Nat} (h : i < n) : bit (bytes (need n) (tr n T)) i = T i := by
  rw [bit_bytes]
  have := (need_room n).1
  have h2 : i < 8 * need n := by omega
  simp [tr, h, h2]
theorem tr_zero (T : Nat → Bool) : tr 0 T = fun _ => false := by
  funext x
  simp [tr]
theorem tr_put (T : Nat → Bool) (i : Nat) (h : T i = true) : tr (i + 1) T = putF (tr i T) i 1 := by
  funext x
  unfold tr putF
  by_cases h1 : x < i
  · have : ¬ i ≤ x := by omega
    have h2 : x < i + 1 := by omega
    simp [h1, h2, this]
  · by_cases h2 : x = i
    · subst h2
      simp [h]
    · have h3 : ¬ x < i + 1 := by omega
      have h4 : i ≤ x := by omega
      have h5 : (1 : Nat).testBit (x - i) = false := Nat.testBit_lt_two_pow (x := 1) (Nat.one_lt_two_pow (by omega))
      simp [h1, h3, h4, h5]
theorem tr_skip (T : Nat → Bool) (i : Nat) (h : T i = false) : tr (i + 1) T = tr i T := by
  funext x
  unfold tr
  by_cases h1 : x < i
  · have h2 : x < i + 1 := by omega
    simp [h1, h2]
  · by_cases h2 : x = i
    · subst h2
      simp [h]
    · have h3 : ¬ x < i + 1 := by omega
      simp [h1, h3]
/-- The document's way to set a bit. -/
theorem tr_add (T : Nat → Bool) (i : Nat) (h : T i = true) : oct (tr i T) (i / 8) + 2 ^ (i % 8) = oct (tr (i + 1) T) (i / 8) := by
  unfold oct
  rw [num_add (by omega) (by unfold tr; have : ¬ 8 * (i / 8) + i % 8 < i := by omega
                             simp [this])]
  refine num_congr fun j hj => ?_
  unfold tr
  by_cases h1 : j = i % 8
  · subst h1
    have e : 8 * (i / 8) + i % 8 = i := by omega
    simp [e, h]
  · by_cases h2 : 8 * (i / 8) + j < i
    · have h3 : 8 * (i / 8) + j < i + 1 := by omega
      simp [h1, h2, h3]
    · have h3 : ¬ 8 * (i / 8) + j < i + 1 := by omega
      simp [h1, h2, h3]
theorem tr_far (T : Nat → Bool) (i k : Nat) (h : k ≠ i / 8) : oct (tr i T) k = oct (tr (i + 1) T) k := by
  refine oct_congr fun j hj => ?_
  unfold tr
  have : decide (8 * k + j < i) = decide (8 * k + j < i + 1) := by rw [decide_eq_decide]; omega
  rw [this]
/-- The document's packed numbers are truths, one by one. -/
theorem pk_tr (n : Nat) (X : Nat → Nat) (w : Nat) : tr (n * w) (fun x => (X (x / w)).testBit (x % w)) = pk n X w := rfl
end Go.Proofs.Ytdjnjhlcdcmeaaa.Bt
