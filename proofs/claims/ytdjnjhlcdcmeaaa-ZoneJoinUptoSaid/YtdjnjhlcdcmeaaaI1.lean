/-
  The plain mathematics of package ints: the four encodings of a column of numbers, what is read of bytes, there and back, in one way. No program.
-/
import Derived.Test.YtdjnjhlcdcmeaaaM4
import Derived.Test.YtdjnjhlcdcmeaaaB1
namespace Go.Proofs.Ytdjnjhlcdcmeaaa.Ig
open Go.RowKit
open Ty (num encU zig zag I64 U64)
/-- A signed number's bytes. -/
def encI (x : Int) : List UInt8 := encU (zig x).toNat
/-- The signed number that comes next; what is left behind a number. -/
def sg (l : List UInt8) : Int := zag ((num l).1 : Int)
def rest (l : List UInt8) : List UInt8 := l.drop (num l).2.1
theorem sg_i64 (l : List UInt8) : I64 (sg l) := Ty.zag_i64 (Ty.num_u64 l)
theorem zag_toNat (x : Int) : zag (((zig x).toNat : Nat) : Int) = x := by rw [Int.toNat_of_nonneg (Ty.zig_nonneg x), Ty.zag_zig]
theorem num_encI (x : Int) (h : I64 x) (r : List UInt8) : num (encI x ++ r) = ((zig x).toNat, (encI x).length, 0) := Ty.num_encU _ (Ty.zig_u64 h) r
theorem read_encI (x : Int) (h : I64 x) (r : List UInt8) : (num (encI x ++ r)).2.2 = 0 ∧ sg (encI x ++ r) = x ∧ rest (encI x ++ r) = r := by
  unfold sg rest
  rw [num_encI x h r]
  exact ⟨rfl, zag_toNat x, by simp⟩
theorem read_encU (n : Nat) (h : U64 n) (r : List UInt8) : (num (encU n ++ r)).2.2 = 0 ∧ (num (encU n ++ r)).1 = n ∧ rest (encU n ++ r) = r := by
  unfold rest
  rw [Ty.num_encU n h r]
  exact ⟨rfl, rfl, by simp⟩
theorem splitU {l : List UInt8} (h : (num l).2.2 = 0) : l = encU (num l).1 ++ rest l := by
  unfold rest
  rw [(Ty.encU_num l h).1, List.take_append_drop]
theorem splitI {l : List UInt8} (h : (num l).2.2 = 0) : l = encI (sg l) ++ rest l := by
  have e : (zig (sg l)).toNat = (num l).1 := by
    unfold sg
    rw [Ty.zig_zag (Int.natCast_nonneg _)]
    simp
  unfold encI
  rw [e]
  exact splitU h
/-- So many signed numbers. -/
def rdInts : Nat → List UInt8 → Nat × List Int × List UInt8
  | 0, l => (0, [], l)
  | n + 1, l => if (num l).2.2 ≠ 0 then ((num l).2.2, [], l) else ((rdInts n (rest l)).1, sg l :: (rdInts n (rest l)).2.1, (rdInts n (rest l)).2.2)
theorem rdInts_back (L : List Int) (h : ∀ x ∈ L, I64 x) (r : List UInt8) : rdInts L.length (L.flatMap encI ++ r) = (0, L, r) := by
  induction L with
  | nil => rfl
  | cons x L ih =>
    have e : (x :: L).flatMap encI ++ r = encI x ++ (L.flatMap encI ++ r) := by simp
    obtain ⟨h1, h2, h3⟩ := read_encI x (h x (by simp)) (L.flatMap encI ++ r)
    rw [e]
    simp only [List.length_cons, rdInts]
    rw [if_neg (by rw [h1]; simp), h2, h3, ih fun y hy => h y (by simp [hy])]
theorem rdInts_only (n : Nat) : ∀ l : List UInt8, (rdInts n l).1 = 0 → l = (rdInts n l).2.1.flatMap encI ++ (rdInts n l).2.2 ∧ (rdInts n l).2.1.length = n ∧ ∀ x ∈ (rdInts n l).2.1, I64 x := by
  induction n with
  | zero => intro l _; simp [rdInts]
  | succ n ih =>
    intro l h
    simp only [rdInts] at h ⊢
    by_cases h1 : (num l).2.2 ≠ 0
    · rw [if_pos h1] at h
      exact absurd h h1
    · rw [if_neg h1] at h ⊢
      obtain ⟨e1, e2, e3⟩ := ih (rest l) h
      refine ⟨?_, by simp [e2], ?_⟩
      · simp only [List.flatMap_cons, List.append_assoc]
        rw [← e1]
        exact splitI (by simpa using h1)
      · intro x hx
        rcases List.mem_cons.1 hx with rfl | hx
        · exact sg_i64 l
        · exact e3 x hx
/-- Sums and differences modulo 2^64, from p on. -/
def acc : Int → List Int → List Int
  | _, [] => []
  | p, x :: xs => wrap64 (p + x) :: acc (wrap64 (p + x)) xs
def diffs : Int → List Int → List Int
  | _, [] => []
  | p, x :: xs => wrap64 (x - p) :: diffs x xs
theorem wrap_i64 (x : Int) : I64 (wrap64 x) := by unfold I64 wrap64; omega
theorem acc_diffs : ∀ (L : List Int) (p : Int), I64 p → (∀ x ∈ L, I64 x) → acc p (diffs p L) = L
  | [], _, _, _ => rfl
  | x :: L, p, hp, hL => by
    have hx := hL x (by simp)
    have e : wrap64 (p + wrap64 (x - p)) = x := by
      unfold I64 at hp hx
      unfold wrap64
      omega
    simp only [diffs, acc]
    rw [e, acc_diffs L x hx fun y hy => hL y (by simp [hy])]
theorem diffs_acc : ∀ (D : List Int) (p : Int), I64 p → (∀ x ∈ D, I64 x) → diffs p (acc p D) = D
  | [], _, _, _ => rfl
  | x :: D, p, hp, hD => by
    have hx := hD x (by simp)
    have e : wrap64 (wrap64 (p + x) - p) = x := by
      unfold I64 at hp hx
      unfold wrap64
      omega
    simp only [diffs, acc]
    rw [e, diffs_acc D _ (wrap_i64 _) fun y hy => hD y (by simp [hy])]
theorem acc_len : ∀ (D : List Int) (p : Int), (acc p D).length = D.length
  | [], _ => rfl
  | _ :: D, _ => by simp [acc, acc_len D]
theorem diffs_len : ∀ (D : List Int) (p : Int), (diffs p D).length = D.length
  | [], _ => rfl
  | _ :: D, _ => by simp [diffs, diffs_len D]
theorem acc_i64 : ∀ (D : List Int) (p : Int), ∀ x ∈ acc p D, I64 x
  | [], _, x, h => by cases h
  | y :: D, p, x, h => by
    simp only [acc] at h
    rcases List.mem_cons.1 h with rfl | h
    · exact wrap_i64 _
    · exact acc_i64 D _ x h
theorem diffs_i64 : ∀ (D : List Int) (p : Int), ∀ x ∈ diffs p D, I64 x
  | [], _, x, h => by cases h
  | y :: D, p, x, h => by
    simp only [diffs] at h
    rcases List.mem_cons.1 h with rfl | h
    · exact wrap_i64 _
    · exact diffs_i64 D _ x h
/-- The maximal runs. -/
def join1 (x : Int) : List (Nat × Int) → List (Nat × Int)
  | [] => [(1, x)]
  | (k, y) :: g => if y = x then (k + 1, x) :: g else (1, x) :: (k, y) :: g
def grp : List Int → List (Nat × Int)
  | [] => []
  | x :: xs => join1 x (grp xs)
def spread (g : List (Nat × Int)) : List Int := g.flatMap fun p => List.replicate p.1 p.2
theorem join1_same (x : Int) (k : Nat) (g : List (Nat × Int)) : join1 x ((k, x) :: g) = (k + 1, x) :: g := by simp [join1]
theorem join1_other {x y : Int} (h : ¬ y = x) (k : Nat) (g : List (Nat × Int)) : join1 x ((k, y) :: g) = (1, x) :: (k, y) :: g := by simp [join1, h]
theorem spread_join (x : Int) (g : List (Nat × Int)) : spread (join1 x g) = x :: spread g := by
  cases g with
  | nil => simp [join1, spread]
  | cons p g =>
    obtain ⟨k, y⟩ := p
    by_cases h : y = x
    · subst h
      rw [join1_same]
      simp [spread, List.replicate_succ]
    · rw [join1_other h]
      simp [spread]
theorem spread_grp (L : List Int) : spread (grp L) = L := by
  induction L with
  | nil => rfl
  | cons x L ih => rw [grp, spread_join, ih]
/-- Runs are proper: none is empty, and none is as the one ahead. -/
def Proper : Option Int → List (Nat × Int) → Prop
  | _, [] => True
  | p, (k, x) :: g => 0 < k ∧ p ≠ some x ∧ Proper (some x) g
theorem proper_join (x : Int) (g : List (Nat × Int)) (h : Proper none g) : Proper none (join1 x g) := by
  cases g with
  | nil => exact ⟨by omega, by simp, trivial⟩
  | cons p g =>
    obtain ⟨k, y⟩ := p
    by_cases e : y = x
    · subst e
      rw [join1_same]
      exact ⟨by omega, by simp, h.2.2⟩
    · rw [join1_other e]
      exact ⟨by omega, by simp, h.1, by simp; exact fun h => e h.symm, h.2.2⟩
theorem proper_grp (L : List Int) : Proper none (grp L) := by
  induction L with
  | nil => trivial
  | cons x L ih => exact proper_join x _ ih
theorem grp_rep (k : Nat) (x : Int) (L : List Int) (g : List (Nat × Int)) (hL : grp L = g) (hx : ∀ p ∈ g.head?, p.2 ≠ x) : grp (List.replicate (k + 1) x ++ L) = (k + 1, x) :: g := by
  induction k with
  | zero =>
    show join1 x (grp L) = _
    rw [hL]
    cases g with
    | nil => rfl
    | cons p g =>
      obtain ⟨j, y⟩ := p
      exact join1_other (hx (j, y) (by simp)) j g
  | succ k ih =>
    rw [List.replicate_succ]
    show join1 x (grp (List.replicate (k + 1) x ++ L)) = _
    rw [ih, join1_same]
theorem grp_spread : ∀ (g : List (Nat × Int)) (p : Option Int), Proper p g → grp (spread g) = g
  | [], _, _ => rfl
  | (k, x) :: g, p, h => by
    obtain ⟨hk, _, hg⟩ := h
    have e : spread ((k, x) :: g) = List.replicate k x ++ spread g := by simp [spread]
    obtain ⟨j, rfl⟩ : ∃ j, k = j + 1 := ⟨k - 1, by omega⟩
    rw [e]
    refine grp_rep j x (spread g) g (grp_spread g _ hg) fun q hq => ?_
    cases g with
    | nil => cases hq
    | cons q' g =>
      obtain ⟨i, y⟩ := q'
      obtain rfl : (i, y) = q := by simpa using hq
      intro e
      exact hg.2.1 (by simp only at e; rw [e])
/-- A run's bytes. -/
def encR (p : Nat × Int) : List UInt8 := encU p.1 ++ encI p.2
/-- Runs of m numbers in all. -/
def rdRuns : Nat → Nat → Option Int → List UInt8 → Nat × List (Nat × Int) × List UInt8
  | _, 0, _, l => (0, [], l)
  | 0, _, _, l => (0, [], l)
  | f + 1, m, p, l =>
    if (num l).2.2 ≠ 0 then ((num l).2.2, [], l)
    else if (num l).1 = 0 ∨ m < (num l).1 then (4, [], l)
    else if (num (rest l)).2.2 ≠ 0 then ((num (rest l)).2.2, [], l)
    else if p = some (sg (rest l)) then (4, [], l)
    else ((rdRuns f (m - (num l).1) (some (sg (rest l))) (rest (rest l))).1, ((num l).1, sg (rest l)) :: (rdRuns f (m - (num l).1) (some (sg (rest l))) (rest (rest l))).2.1, (rdRuns f (m - (num l).1) (some (sg (rest l))) (rest (rest l))).2.2)
def total (g : List (Nat × Int)) : Nat := (g.map (·.1)).sum
theorem rdRuns_zero (f : Nat) (p : Option Int) (l : List UInt8) : rdRuns f 0 p l = (0, [], l) := by cases f <;> rfl
theorem rdRuns_back : ∀ (g : List (Nat × Int)) (f m : Nat) (p : Option Int) (r : List UInt8), m ≤ f → m < 2 ^ 64 → total g = m → Proper p g → (∀ q ∈ g, I64 q.2) → rdRuns f m p (g.flatMap encR ++ r) = (0, g, r)
  | [], f, m, p, r, _, _, ht, _, _ => by
    obtain rfl : m = 0 := by simpa [total] using ht.symm
    rw [rdRuns_zero]
    rfl
  | (k, x) :: g, f, m, p, r, hf, hm, ht, hp, hi => by
    obtain ⟨hk, hne, hg⟩ := hp
    have ht2 : k + total g = m := by simpa [total] using ht
    obtain ⟨m', rfl⟩ : ∃ m', m = m' + 1 := ⟨m - 1, by omega⟩
    obtain ⟨f', rfl⟩ : ∃ f', f = f' + 1 := ⟨f - 1, by omega⟩
    have e : ((k, x) :: g).flatMap encR ++ r = encU k ++ (encI x ++ (g.flatMap encR ++ r)) := by simp [encR]
    obtain ⟨a1, a2, a3⟩ := read_encU k (show U64 k by unfold U64; omega) (encI x ++ (g.flatMap encR ++ r))
    obtain ⟨b1, b2, b3⟩ := read_encI x (hi (k, x) (by simp)) (g.flatMap encR ++ r)
    rw [e]
    simp only [rdRuns]
    rw [if_neg (by rw [a1]; simp), a2, if_neg (by omega), a3, if_neg (by rw [b1]; simp), b2, if_neg hne, b3, rdRuns_back g f' (m' + 1 - k) (some x) r (by omega) (by omega) (by omega) hg fun q hq => hi q (by simp [hq])]
theorem rdRuns_only : ∀ (f m : Nat) (p : Option Int) (l : List UInt8), m ≤ f → (rdRuns f m p l).1 = 0 → l = (rdRuns f m p l).2.1.flatMap encR ++ (rdRuns f m p l).2.2 ∧ total (rdRuns f m p l).2.1 = m ∧ Proper p (rdRuns f m p l).2.1 ∧ ∀ q ∈ (rdRuns f m p l).2.1, I64 q.2
  | f, 0, p, l, _, _ => by
    rw [rdRuns_zero]
    exact ⟨rfl, rfl, trivial, fun q hq => by cases hq⟩
  | 0, m + 1, _, _, hf, _ => by omega
  | f + 1, m + 1, p, l, hf, h => by
    simp only [rdRuns] at h ⊢
    by_cases h1 : (num l).2.2 ≠ 0
    · rw [if_pos h1] at h
      exact absurd h h1
    · rw [if_neg h1] at h ⊢
      by_cases h2 : (num l).1 = 0 ∨ m + 1 < (num l).1
      · rw [if_pos h2] at h
        cases h
      · rw [if_neg h2] at h ⊢
        by_cases h3 : (num (rest l)).2.2 ≠ 0
        · rw [if_pos h3] at h
          exact absurd h h3
        · rw [if_neg h3] at h ⊢
          by_cases h4 : p = some (sg (rest l))
          · rw [if_pos h4] at h
            cases h
          · rw [if_neg h4] at h ⊢
            obtain ⟨e1, e2, e3, e4⟩ := rdRuns_only f (m + 1 - (num l).1) (some (sg (rest l))) (rest (rest l)) (by omega) h
            refine ⟨?_, ?_, ⟨by omega, h4, e3⟩, ?_⟩
            · simp only [List.flatMap_cons, List.append_assoc, encR]
              rw [← e1, ← splitI (by simpa using h3)]
              exact splitU (by simpa using h1)
            · simp only [total, List.map_cons, List.sum_cons] at e2 ⊢
              omega
            · intro q hq
              rcases List.mem_cons.1 hq with rfl | hq
              · exact sg_i64 _
              · exact e4 q hq
theorem total_spread (g : List (Nat × Int)) : (spread g).length = total g := by
  induction g with
  | nil => rfl
  | cons p g ih =>
    have e : spread (p :: g) = List.replicate p.1 p.2 ++ spread g := by simp [spread]
    rw [e, List.length_append, ih]
    simp [total]
theorem grp_i64 (L : List Int) (h : ∀ x ∈ L, I64 x) : ∀ q ∈ grp L, I64 q.2 := by
  intro q hq
  have hp : ∀ (g : List (Nat × Int)) (p : Option Int), Proper p g → ∀ q ∈ g, q.2 ∈ spread g := by
    intro g
    induction g with
    | nil => intro _ _ q hq; cases hq
    | cons a g ih =>
      intro p hp q hq
      have e : spread (a :: g) = List.replicate a.1 a.2 ++ spread g := by simp [spread]
      rw [e]
      rcases List.mem_cons.1 hq with rfl | hq
      · exact List.mem_append_left _ (List.mem_replicate.2 ⟨by have := hp.1; omega, rfl⟩)
      · exact List.mem_append_right _ (ih _ hp.2.2 q hq)
  have := hp _ _ (proper_grp L) q hq
  rw [spread_grp] at this
  exact h _ this
theorem spread_i64 (g : List (Nat × Int)) (h : ∀ q ∈ g, I64 q.2) : ∀ x ∈ spread g, I64 x := by
  intro x hx
  obtain ⟨q, hq, hx⟩ := List.mem_flatMap.1 hx
  rw [List.mem_replicate] at hx
  rw [hx.2]
  exact h q hq
/-- The smallest one. -/
def low : List Int → Int
  | [] => 0
  | x :: xs => xs.foldl min x
theorem foldl_min (l : List Int) : ∀ x : Int, l.foldl min x ≤ x ∧ (∀ y ∈ l, l.foldl min x ≤ y) ∧ (l.foldl min x = x ∨ l.foldl min x ∈ l) := by
  induction l with
  | nil => intro x; exact ⟨Int.le_refl _, (fun y hy => by cases hy), .inl rfl⟩
  | cons z l ih =>
    intro x
    obtain ⟨h1, h2, h3⟩ := ih (min x z)
    simp only [List.foldl_cons]
    refine ⟨by omega, fun y hy => ?_, ?_⟩
    · rcases List.mem_cons.1 hy with rfl | hy
      · omega
      · exact h2 y hy
    · rcases h3 with h3 | h3
      · by_cases h : x ≤ z
        · exact .inl (by rw [h3]; omega)
        · exact .inr (by rw [h3, show min x z = z by omega]; simp)
      · exact .inr (List.mem_cons_of_mem _ h3)
theorem low_le (L : List Int) : ∀ x ∈ L, low L ≤ x := by
  cases L with
  | nil => intro x hx; cases hx
  | cons a L =>
    intro x hx
    obtain ⟨h1, h2, _⟩ := foldl_min L a
    rcases List.mem_cons.1 hx with rfl | hx
    · exact h1
    · exact h2 x hx
theorem low_mem (L : List Int) (h : L ≠ []) : low L ∈ L := by
  cases L with
  | nil => exact absurd rfl h
  | cons a L =>
    obtain ⟨_, _, h3⟩ := foldl_min L a
    rcases h3 with h3 | h3
    · show L.foldl min a ∈ a :: L
      rw [h3]; simp
    · exact List.mem_cons_of_mem _ h3
theorem low_is (L : List Int) (x : Int) (h : x ∈ L) (hl : ∀ y ∈ L, x ≤ y) : low L = x := Int.le_antisymm (low_le L x h) (hl _ (low_mem L (by intro e; rw [e] at h; cases h)))
/-- The differences from the smallest one. -/
def off (L : List Int) (i : Nat) : Nat := (L.getD i (low L) - low L).toNat
theorem off_lt (L : List Int) (h : ∀ x ∈ L, I64 x) (i : Nat) : off L i < 2 ^ 64 := by
  unfold off
  rw [List.getD]
  cases hg : L[i]? with
  | none => simp
  | some x =>
    have hx := h x (List.mem_of_getElem? hg)
    have hne : L ≠ [] := by intro e; rw [e] at hg; cases hg
    have hl := h _ (low_mem L hne)
    unfold I64 at hx hl
    simp only [Option.getD_some]
    omega
/-- The bytes of the differences. -/
def encP (L : List Int) : List UInt8 := if L = [] then [] else encI (low L) ++ (UInt8.ofNat (Bt.wid L.length (off L)) :: (Bt.bytes (Bt.need (L.length * Bt.wid L.length (off L))) (Bt.pk L.length (off L) (Bt.wid L.length (off L)))).data.toList)
/-- The numbers of w bits in bytes, as Unpack has them. -/
def un (s : ByteArray) (w i : Nat) : Nat := Bt.num w (fun j => Bt.bit s (i * w + j))
/-- The elements out of the smallest one and the differences. -/
def outs (n : Nat) (x : Int) (X : Nat → Nat) : List Int := (List.range n).map fun i => wrap64 (x + (X i : Int))
/-- What is right of the differences. -/
def good (n w : Nat) (x : Int) (X : Nat → Nat) : Bool := (List.range n).any (fun i => X i == 0) && (Bt.wid n X == w) && (low (outs n x X) == x)
/-- Packed numbers, at least one. -/
def rdPacked (n : Nat) (l : List UInt8) : Nat × List Int × List UInt8 :=
  if (num l).2.2 ≠ 0 then ((num l).2.2, [], l)
  else match rest l with
    | [] => (2, [], l)
    | b :: r =>
      if 64 < b.toNat then (4, [], l)
      else if r.length < Bt.need (n * b.toNat) then (2, [], l)
      else if Bt.chk ⟨(r.take (Bt.need (n * b.toNat))).toArray⟩ (n * b.toNat) ≠ 0 then (Bt.chk ⟨(r.take (Bt.need (n * b.toNat))).toArray⟩ (n * b.toNat), [], l)
      else if good n b.toNat (sg l) (un ⟨(r.take (Bt.need (n * b.toNat))).toArray⟩ b.toNat) = true then (0, outs n (sg l) (un ⟨(r.take (Bt.need (n * b.toNat))).toArray⟩ b.toNat), r.drop (Bt.need (n * b.toNat)))
      else (4, [], l)
theorem outs_off (L : List Int) (h : ∀ x ∈ L, I64 x) : outs L.length (low L) (off L) = L := by
  unfold outs
  refine List.ext_getElem (by simp) fun i h1 h2 => ?_
  rw [List.getElem_map, List.getElem_range]
  have hx := h _ (List.getElem_mem h2)
  have hl := low_le L _ (List.getElem_mem h2)
  have e : ((off L i : Nat) : Int) = L[i] - low L := by
    unfold off
    rw [List.getD, List.getElem?_eq_getElem h2]
    simp only [Option.getD_some]
    omega
  rw [e]
  unfold I64 at hx
  unfold wrap64
  omega
theorem good_off (L : List Int) (hne : L ≠ []) (h : ∀ x ∈ L, I64 x) : good L.length (Bt.wid L.length (off L)) (low L) (off L) = true := by
  unfold good
  rw [outs_off L h]
  obtain ⟨i, hi, e⟩ := List.getElem_of_mem (low_mem L hne)
  have h0 : off L i = 0 := by
    unfold off
    rw [List.getD, List.getElem?_eq_getElem hi, Option.getD_some, e]
    simp
  have ha : (List.range L.length).any (fun i => off L i == 0) = true := List.any_eq_true.2 ⟨i, List.mem_range.2 hi, by rw [h0]; rfl⟩
  rw [ha]
  simp
theorem good_congr {n w : Nat} {x : Int} {X Y : Nat → Nat} (h : ∀ i, i < n → X i = Y i) : good n w x X = good n w x Y := by
  have e1 : (List.range n).any (fun i => X i == 0) = (List.range n).any (fun i => Y i == 0) := by
    rw [Bool.eq_iff_iff, List.any_eq_true, List.any_eq_true]
    constructor
    · rintro ⟨i, hi, e⟩
      exact ⟨i, hi, by rw [← h i (List.mem_range.1 hi)]; exact e⟩
    · rintro ⟨i, hi, e⟩
      exact ⟨i, hi, by rw [h i (List.mem_range.1 hi)]; exact e⟩
  have e2 : Bt.orN n X = Bt.orN n Y := by
    have : ∀ k, k ≤ n → Bt.orN k X = Bt.orN k Y := by
      intro k
      induction k with
      | zero => intro _; rfl
      | succ k ih => intro hk; simp only [Bt.orN]; rw [ih (by omega), h k (by omega)]
    exact this n (Nat.le_refl _)
  have e3 : outs n x X = outs n x Y := List.map_congr_left fun i hi => by rw [h i (List.mem_range.1 hi)]
  unfold good Bt.wid
  rw [e1, e2, e3]
theorem outs_congr {n : Nat} {x : Int} {X Y : Nat → Nat} (h : ∀ i, i < n → X i = Y i) : outs n x X = outs n x Y := List.map_congr_left fun i hi => by rw [h i (List.mem_range.1 hi)]
theorem rdPacked_back (L : List Int) (hne : L ≠ []) (h : ∀ x ∈ L, I64 x) (r : List UInt8) : rdPacked L.length (encP L ++ r) = (0, L, r) := by
  unfold encP
  rw [if_neg hne]
  have hw := Bt.wid_64 (n := L.length) (off_lt L h)
  have hX := (Bt.wid_le L.length (off L) _).1 (Nat.le_refl _)
  have hg := good_off L hne h
  have ho := outs_off L h
  have hB := fun i hi => Bt.back (n := L.length) (X := off L) (i := i) hi (hX i hi)
  have hC := Bt.chk_pack L.length (off L) (Bt.wid L.length (off L))
  generalize Bt.wid L.length (off L) = w at hw hg hB hC ⊢
  have hsz := Bt.size_bytes (Bt.need (L.length * w)) (Bt.pk L.length (off L) w)
  generalize Bt.bytes (Bt.need (L.length * w)) (Bt.pk L.length (off L) w) = s at hB hC hsz ⊢
  have hl := h _ (low_mem L hne)
  have e : encI (low L) ++ (UInt8.ofNat w :: s.data.toList) ++ r = encI (low L) ++ (UInt8.ofNat w :: (s.data.toList ++ r)) := by simp
  obtain ⟨a1, a2, a3⟩ := read_encI (low L) hl (UInt8.ofNat w :: (s.data.toList ++ r))
  have hwn : (UInt8.ofNat w).toNat = w := by simp [UInt8.toNat_ofNat']; omega
  have hlen := Bt.length_data s
  have et : (s.data.toList ++ r).take (Bt.need (L.length * w)) = s.data.toList := by
    rw [← hsz, ← hlen]; simp
  have ed : (s.data.toList ++ r).drop (Bt.need (L.length * w)) = r := by
    rw [← hsz, ← hlen]; simp
  have es : (⟨s.data.toList.toArray⟩ : ByteArray) = s := rfl
  rw [e]
  unfold rdPacked
  rw [if_neg (by rw [a1]; simp), a3, a2]
  simp only [hwn]
  rw [if_neg (by omega), if_neg (by rw [List.length_append, hlen, hsz]; omega), et, ed, es, if_neg (by rw [hC]; simp)]
  have hc : ∀ i, i < L.length → un s w i = off L i := fun i hi => hB i hi
  rw [good_congr hc, if_pos hg, outs_congr hc, ho]
theorem rdPacked_only (n : Nat) (hn : 0 < n) (l : List UInt8) (h : (rdPacked n l).1 = 0) : l = encP (rdPacked n l).2.1 ++ (rdPacked n l).2.2 ∧ (rdPacked n l).2.1.length = n ∧ ∀ x ∈ (rdPacked n l).2.1, I64 x := by
  unfold rdPacked at h ⊢
  by_cases h1 : (num l).2.2 ≠ 0
  · rw [if_pos h1] at h
    exact absurd h h1
  · rw [if_neg h1] at h ⊢
    have hs := splitI (l := l) (by simpa using h1)
    cases hr : rest l with
    | nil => rw [hr] at h; cases h
    | cons b r =>
      rw [hr] at h
      simp only at h ⊢
      by_cases h2 : 64 < b.toNat
      · rw [if_pos h2] at h; cases h
      · rw [if_neg h2] at h ⊢
        by_cases h3 : r.length < Bt.need (n * b.toNat)
        · rw [if_pos h3] at h; cases h
        · rw [if_neg h3] at h ⊢
          by_cases h4 : Bt.chk ⟨(r.take (Bt.need (n * b.toNat))).toArray⟩ (n * b.toNat) ≠ 0
          · rw [if_pos h4] at h
            exact absurd h h4
          · rw [if_neg h4] at h ⊢
            have hC : Bt.chk ⟨(r.take (Bt.need (n * b.toNat))).toArray⟩ (n * b.toNat) = 0 := by simpa using h4
            by_cases h5 : good n b.toNat (sg l) (un ⟨(r.take (Bt.need (n * b.toNat))).toArray⟩ b.toNat) = true
            · rw [if_pos h5]
              have hO := Bt.only hC
              have hlt : ∀ i, un ⟨(r.take (Bt.need (n * b.toNat))).toArray⟩ b.toNat i < 2 ^ b.toNat := fun i => Bt.num_lt _ _
              have hlt64 : ∀ i, un ⟨(r.take (Bt.need (n * b.toNat))).toArray⟩ b.toNat i < 2 ^ 64 := fun i => Nat.lt_of_lt_of_le (hlt i) (Nat.pow_le_pow_right (by decide) (by omega))
              have hun : (fun i => Bt.num b.toNat (fun j => Bt.bit ⟨(r.take (Bt.need (n * b.toNat))).toArray⟩ (i * b.toNat + j))) = un ⟨(r.take (Bt.need (n * b.toNat))).toArray⟩ b.toNat := rfl
              rw [hun] at hO
              unfold good at h5
              simp only [Bool.and_eq_true, beq_iff_eq] at h5
              obtain ⟨⟨_, hW⟩, hL⟩ := h5
              generalize hX : un ⟨(r.take (Bt.need (n * b.toNat))).toArray⟩ b.toNat = X at hO hlt hlt64 hW hL ⊢
              have hlen : (outs n (sg l) X).length = n := by simp [outs]
              have hne : outs n (sg l) X ≠ [] := by intro e; rw [e] at hlen; simp at hlen; omega
              have hi64 : ∀ x ∈ outs n (sg l) X, I64 x := by
                intro x hx
                obtain ⟨i, _, rfl⟩ := List.mem_map.1 hx
                exact wrap_i64 _
              have hoff : ∀ i, i < n → off (outs n (sg l) X) i = X i := by
                intro i hi
                have hg : (outs n (sg l) X)[i]? = some (wrap64 (sg l + (X i : Int))) := by simp [outs, hi]
                have hle := low_le _ _ (List.mem_of_getElem? hg)
                unfold off
                rw [List.getD, hg, Option.getD_some, hL]
                rw [hL] at hle
                have hx := hlt64 i
                have hl := sg_i64 l
                unfold I64 at hl
                unfold wrap64 at hle ⊢
                omega
              have hwid : Bt.wid n (off (outs n (sg l) X)) = b.toNat := by
                have e : Bt.orN n (off (outs n (sg l) X)) = Bt.orN n X := by
                  have : ∀ k, k ≤ n → Bt.orN k (off (outs n (sg l) X)) = Bt.orN k X := by
                    intro k
                    induction k with
                    | zero => intro _; rfl
                    | succ k ih => intro hk; simp only [Bt.orN]; rw [ih (by omega), hoff k (by omega)]
                  exact this n (Nat.le_refl _)
                unfold Bt.wid at hW ⊢
                rw [e]; exact hW
              have hpk : Bt.bytes (Bt.need (n * b.toNat)) (Bt.pk n (off (outs n (sg l) X)) b.toNat) = Bt.bytes (Bt.need (n * b.toNat)) (Bt.pk n X b.toNat) := by
                refine Bt.bytes_congr fun x _ => ?_
                unfold Bt.pk
                by_cases hx : x < n * b.toNat
                · have hb0 : 0 < b.toNat := by
                    rcases Nat.eq_zero_or_pos b.toNat with h0 | h0
                    · rw [h0] at hx; simp at hx
                    · exact h0
                  rw [hoff (x / b.toNat) ((Nat.div_lt_iff_lt_mul hb0).2 hx)]
                · simp [hx]
              refine ⟨?_, hlen, hi64⟩
              unfold encP
              rw [if_neg hne, hlen, hL, hwid, hpk, hO]
              have hub : UInt8.ofNat b.toNat = b := by simp
              rw [hub]
              have : encI (sg l) ++ (b :: (⟨(r.take (Bt.need (n * b.toNat))).toArray⟩ : ByteArray).data.toList) ++ r.drop (Bt.need (n * b.toNat)) = encI (sg l) ++ (b :: r) := by
                simp
              rw [this, ← hr]
              exact hs
            · rw [if_neg h5] at h; cases h
/-- The encoding of a column by a codec. -/
def body (k : Nat) (L : List Int) : List UInt8 := if k = 0 then L.flatMap encI else if k = 1 then (diffs 0 L).flatMap encI else if k = 2 then (grp L).flatMap encR else encP L
def enc (k : Nat) (L : List Int) : List UInt8 := UInt8.ofNat k :: (encU L.length ++ body k L)
/-- So many elements by a codec. -/
def rdBody (k n : Nat) (l : List UInt8) : Nat × List Int × List UInt8 :=
  if k = 0 then rdInts n l
  else if k = 1 then ((rdInts n l).1, acc 0 (rdInts n l).2.1, (rdInts n l).2.2)
  else if k = 2 then ((rdRuns n n none l).1, spread (rdRuns n n none l).2.1, (rdRuns n n none l).2.2)
  else if n = 0 then (0, [], l) else rdPacked n l
/-- What is read of bytes: the first error, the elements. -/
def rd (l : List UInt8) : Nat × List Int :=
  match l with
  | [] => (2, [])
  | b :: r =>
    if 3 < b.toNat then (4, [])
    else if (num r).2.2 ≠ 0 then ((num r).2.2, [])
    else if 65536 < (num r).1 then (3, [])
    else if (rdBody b.toNat (num r).1 (rest r)).1 ≠ 0 then ((rdBody b.toNat (num r).1 (rest r)).1, [])
    else if (rdBody b.toNat (num r).1 (rest r)).2.2 ≠ [] then (5, [])
    else (0, (rdBody b.toNat (num r).1 (rest r)).2.1)
theorem rdBody_back (k : Nat) (L : List Int) (h : ∀ x ∈ L, I64 x) (hl : L.length < 2 ^ 64) (r : List UInt8) : rdBody k L.length (body k L ++ r) = (0, L, r) := by
  have h0 : I64 0 := by unfold I64; omega
  unfold rdBody body
  by_cases h1 : k = 0
  · simp only [h1, if_true]
    exact rdInts_back L h r
  · by_cases h2 : k = 1
    · simp only [h2, if_false, if_true, Nat.one_ne_zero]
      have := rdInts_back (diffs 0 L) (diffs_i64 L 0) r
      rw [diffs_len] at this
      rw [this]
      simp only [acc_diffs L 0 h0 h]
    · by_cases h3 : k = 2
      · subst h3
        simp only [if_true, if_false, show ¬ (2 : Nat) = 0 by omega, show ¬ (2 : Nat) = 1 by omega]
        have e : total (grp L) = L.length := by rw [← total_spread, spread_grp]
        have := rdRuns_back (grp L) L.length L.length none r (Nat.le_refl _) hl e (proper_grp L) (grp_i64 L h)
        rw [this]
        simp only [spread_grp]
      · simp only [h1, h2, h3, if_false]
        by_cases hne : L = []
        · subst hne
          simp [encP]
        · rw [if_neg (by intro e; exact hne (List.eq_nil_of_length_eq_zero e))]
          exact rdPacked_back L hne h r
theorem rdBody_only (k n : Nat) (l : List UInt8) (h : (rdBody k n l).1 = 0) : l = body k (rdBody k n l).2.1 ++ (rdBody k n l).2.2 ∧ (rdBody k n l).2.1.length = n ∧ ∀ x ∈ (rdBody k n l).2.1, I64 x := by
  have h0 : I64 0 := by unfold I64; omega
  unfold rdBody at h ⊢
  unfold body
  by_cases h1 : k = 0
  · simp only [h1, if_true] at h ⊢
    exact rdInts_only n l h
  · by_cases h2 : k = 1
    · simp only [h2, if_false, if_true, Nat.one_ne_zero] at h ⊢
      obtain ⟨e1, e2, e3⟩ := rdInts_only n l h
      exact ⟨by rw [diffs_acc _ 0 h0 e3]; exact e1, by rw [acc_len]; exact e2, acc_i64 _ 0⟩
    · by_cases h3 : k = 2
      · subst h3
        simp only [if_true, if_false, show ¬ (2 : Nat) = 0 by omega, show ¬ (2 : Nat) = 1 by omega] at h ⊢
        obtain ⟨e1, e2, e3, e4⟩ := rdRuns_only n n none l (Nat.le_refl _) h
        exact ⟨by rw [grp_spread _ none e3]; exact e1, by rw [total_spread]; exact e2, spread_i64 _ e4⟩
      · simp only [h1, h2, h3, if_false] at h ⊢
        by_cases hn : n = 0
        · subst hn
          simp [encP]
        · rw [if_neg hn] at h ⊢
          exact rdPacked_only n (by omega) l h
/-- THERE AND BACK. -/
theorem rd_enc (k : Nat) (hk : k ≤ 3) (L : List Int) (h : ∀ x ∈ L, I64 x) (hl : L.length ≤ 65536) : rd (enc k L) = (0, L) := by
  have hkn : (UInt8.ofNat k).toNat = k := by simp [UInt8.toNat_ofNat']; omega
  obtain ⟨a1, a2, a3⟩ := read_encU L.length (show U64 L.length by unfold U64; omega) (body k L)
  have hb := rdBody_back k L h (by omega) []
  rw [List.append_nil] at hb
  unfold rd enc
  simp only [hkn]
  rw [if_neg (by omega), if_neg (by rw [a1]; simp), a2, if_neg (by omega), a3, hb]
  simp
/-- IN ONE WAY. -/
theorem enc_rd (l : List UInt8) (h : (rd l).1 = 0) : ∃ b r, l = b :: r ∧ b.toNat ≤ 3 ∧ enc b.toNat (rd l).2 = l ∧ (rd l).2.length ≤ 65536 ∧ ∀ x ∈ (rd l).2, I64 x := by
  unfold rd at h ⊢
  cases l with
  | nil => cases h
  | cons b r =>
    simp only at h ⊢
    refine ⟨b, r, rfl, ?_⟩
    by_cases h1 : 3 < b.toNat
    · rw [if_pos h1] at h; cases h
    · rw [if_neg h1] at h ⊢
      by_cases h2 : (num r).2.2 ≠ 0
      · rw [if_pos h2] at h
        exact absurd h h2
      · rw [if_neg h2] at h ⊢
        by_cases h3 : 65536 < (num r).1
        · rw [if_pos h3] at h; cases h
        · rw [if_neg h3] at h ⊢
          by_cases h4 : (rdBody b.toNat (num r).1 (rest r)).1 ≠ 0
          · rw [if_pos h4] at h
            exact absurd h h4
          · rw [if_neg h4] at h ⊢
            by_cases h5 : (rdBody b.toNat (num r).1 (rest r)).2.2 ≠ []
            · rw [if_pos h5] at h; cases h
            · rw [if_neg h5]
              obtain ⟨e1, e2, e3⟩ := rdBody_only b.toNat (num r).1 (rest r) (by simpa using h4)
              have e5 : (rdBody b.toNat (num r).1 (rest r)).2.2 = [] := by simpa using h5
              rw [e5, List.append_nil] at e1
              refine ⟨by omega, ?_, by rw [e2]; omega, e3⟩
              unfold enc
              rw [e2, ← e1, ← splitU (by simpa using h2)]
              simp
end Go.Proofs.Ytdjnjhlcdcmeaaa.Ig
