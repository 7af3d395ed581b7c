/-
  The plain mathematics of package ints: the four encodings of a column of numbers, what is read of bytes, there and back, in one way. No program.
  The plain mathematics of package ints, for the walks: prefixes, runs, the smallest of a prefix, differences as the program computes them. No program.
  Contracts of package ints: numbers in hand; the table of codecs; the plain writer, the writer of differences; the length of a run; the smallest one.
  Contracts of package ints: the writer of differences; the length of a run; the smallest one.
  Contracts of package ints: the writer of runs.
-/
import Derived.Test.YtcognkgabdaneaaGreatDoorTC
import Derived.Test.YtcognkgabdaneaaGreatDoorBA
import Derived.Test.YtcognkgabdaneaaGreatDoorTD
import Derived.Test.YtcognkgabdaneaaGreatDoorBB
import Derived.BigQuiet
import Derived.Deep.QuietTactic
import Derived.Deep.RegionHeld3
namespace Go.Proofs.YtcognkgabdaneaaGreatDoor.Ig
open Go.RowKit
open Ty (num encU zig zag I64 U64)
/-- A signed number's bytes. -/
def encI (x : Int) : List UInt8 := encU (zig x).toNat
/-- The signed number that comes next; what is left behind a number. -/
def sg (l : List UInt8) : Int := zag ((num l).1 : Int)
def rest (l : List UInt8) : List UInt8 := l.drop (num l).2.1
theorem sg_i64 (l : List UInt8) : I64 (sg l) := Ty.zag_i64 (Ty.num_u64 l)
theorem zag_toNat (x : Int) : zag (((zig x).toNat : Nat) : Int) = x := by rw [Int.toNat_of_nonneg (Ty.zig_nonneg x), Ty.zag_zig]
theorem num_encI (x : Int) (h : I64 x) (r : List UInt8) : num (encI x ++ r) = ((zig x).toNat, (encI x).length, 0) := Ty.num_encU _ (Ty.zig_u64 h) r
theorem read_encI (x : Int) (h : I64 x) (r : List UInt8) : (num (encI x ++ r)).2.2 = 0 ∧ sg (encI x ++ r) = x ∧ rest (encI x ++ r) = r := by
  unfold sg rest
  rw [num_encI x h r]
  exact ⟨rfl, zag_toNat x, by simp⟩
theorem read_encU (n : Nat) (h : U64 n) (r : List UInt8) : (num (encU n ++ r)).2.2 = 0 ∧ (num (encU n ++ r)).1 = n ∧ rest (encU n ++ r) = r := by
  unfold rest
  rw [Ty.num_encU n h r]
  exact ⟨rfl, rfl, by simp⟩
theorem splitU {l : List UInt8} (h : (num l).2.2 = 0) : l = encU (num l).1 ++ rest l := by
  unfold rest
  rw [(Ty.encU_num l h).1, List.take_append_drop]
theorem splitI {l : List UInt8} (h : (num l).2.2 = 0) : l = encI (sg l) ++ rest l := by
  have e : (zig (sg l)).toNat = (num l).1 := by
    unfold sg
    rw [Ty.zig_zag (Int.natCast_nonneg _)]
    simp
  unfold encI
  rw [e]
  exact splitU h
/-- So many signed numbers. -/
def rdInts : Nat → List UInt8 → Nat × List Int × List UInt8
  | 0, l => (0, [], l)
  | n + 1, l => if (num l).2.2 ≠ 0 then ((num l).2.2, [], l) else ((rdInts n (rest l)).1, sg l :: (rdInts n (rest l)).2.1, (rdInts n (rest l)).2.2)
theorem rdInts_back (L : List Int) (h : ∀ x ∈ L, I64 x) (r : List UInt8) : rdInts L.length (L.flatMap encI ++ r) = (0, L, r) := by
  induction L with
  | nil => rfl
  | cons x L ih =>
    have e : (x :: L).flatMap encI ++ r = encI x ++ (L.flatMap encI ++ r) := by simp
    obtain ⟨h1, h2, h3⟩ := read_encI x (h x (by simp)) (L.flatMap encI ++ r)
    rw [e]
    simp only [List.length_cons, rdInts]
    rw [if_neg (by rw [h1]; simp), h2, h3, ih fun y hy => h y (by simp [hy])]
theorem rdInts_only (n : Nat) : ∀ l : List UInt8, (rdInts n l).1 = 0 → l = (rdInts n l).2.1.flatMap encI ++ (rdInts n l).2.2 ∧ (rdInts n l).2.1.length = n ∧ ∀ x ∈ (rdInts n l).2.1, I64 x := by
  induction n with
  | zero => intro l _; simp [rdInts]
  | succ n ih =>
    intro l h
    simp only [rdInts] at h ⊢
    by_cases h1 : (num l).2.2 ≠ 0
    · rw [if_pos h1] at h
      exact absurd h h1
    · rw [if_neg h1] at h ⊢
      obtain ⟨e1, e2, e3⟩ := ih (rest l) h
      refine ⟨?_, by simp [e2], ?_⟩
      · simp only [List.flatMap_cons, List.append_assoc]
        rw [← e1]
        exact splitI (by simpa using h1)
      · intro x hx
        rcases List.mem_cons.1 hx with rfl | hx
        · exact sg_i64 l
        · exact e3 x hx
/-- Sums and differences modulo 2^64, from p on. -/
def acc : Int → List Int → List Int
  | _, [] => []
  | p, x :: xs => wrap64 (p + x) :: acc (wrap64 (p + x)) xs
def diffs : Int → List Int → List Int
  | _, [] => []
  | p, x :: xs => wrap64 (x - p) :: diffs x xs
theorem wrap_i64 (x : Int) : I64 (wrap64 x) := by unfold I64 wrap64; omega
theorem acc_diffs : ∀ (L : List Int) (p : Int), I64 p → (∀ x ∈ L, I64 x) → acc p (diffs p L) = L
  | [], _, _, _ => rfl
  | x :: L, p, hp, hL => by
    have hx := hL x (by simp)
    have e : wrap64 (p + wrap64 (x - p)) = x := by
      unfold I64 at hp hx
      unfold wrap64
      omega
    simp only [diffs, acc]
    rw [e, acc_diffs L x hx fun y hy => hL y (by simp [hy])]
theorem diffs_acc : ∀ (D : List Int) (p : Int), I64 p → (∀ x ∈ D, I64 x) → diffs p (acc p D) = D
  | [], _, _, _ => rfl
  | x :: D, p, hp, hD => by
    have hx := hD x (by simp)
    have e : wrap64 (wrap64 (p + x) - p) = x := by
      unfold I64 at hp hx
      unfold wrap64
      omega
    simp only [diffs, acc]
    rw [e, diffs_acc D _ (wrap_i64 _) fun y hy => hD y (by simp [hy])]
theorem acc_len : ∀ (D : List Int) (p : Int), (acc p D).length = D.length
  | [], _ => rfl
  | _ :: D, _ => by simp [acc, acc_len D]
theorem diffs_len : ∀ (D : List Int) (p : Int), (diffs p D).length = D.length
  | [], _ => rfl
  | _ :: D, _ => by simp [diffs, diffs_len D]
theorem acc_i64 : ∀ (D : List Int) (p : Int), ∀ x ∈ acc p D, I64 x
  | [], _, x, h => by cases h
  | y :: D, p, x, h => by
    simp only [acc] at h
    rcases List.mem_cons.1 h with rfl | h
    · exact wrap_i64 _
    · exact acc_i64 D _ x h
theorem diffs_i64 : ∀ (D : List Int) (p : Int), ∀ x ∈ diffs p D, I64 x
  | [], _, x, h => by cases h
  | y :: D, p, x, h => by
    simp only [diffs] at h
    rcases List.mem_cons.1 h with rfl | h
    · exact wrap_i64 _
    · exact diffs_i64 D _ x h
/-- The maximal runs. -/
def join1 (x : Int) : List (Nat × Int) → List (Nat × Int)
  | [] => [(1, x)]
  | (k, y) :: g => if y = x then (k + 1, x) :: g else (1, x) :: (k, y) :: g
def grp : List Int → List (Nat × Int)
  | [] => []
  | x :: xs => join1 x (grp xs)
def spread (g : List (Nat × Int)) : List Int := g.flatMap fun p => List.replicate p.1 p.2
theorem join1_same (x : Int) (k : Nat) (g : List (Nat × Int)) : join1 x ((k, x) :: g) = (k + 1, x) :: g := by simp [join1]
theorem join1_other {x y : Int} (h : ¬ y = x) (k : Nat) (g : List (Nat × Int)) : join1 x ((k, y) :: g) = (1, x) :: (k, y) :: g := by simp [join1, h]
theorem spread_join (x : Int) (g : List (Nat × Int)) : spread (join1 x g) = x :: spread g := by
  cases g with
  | nil => simp [join1, spread]
  | cons p g =>
    obtain ⟨k, y⟩ := p
    by_cases h : y = x
    · subst h
      rw [join1_same]
      simp [spread, List.replicate_succ]
    · rw [join1_other h]
      simp [spread]
theorem spread_grp (L : List Int) : spread (grp L) = L := by
  induction L with
  | nil => rfl
  | cons x L ih => rw [grp, spread_join, ih]
/-- Runs are proper: none is empty, and none is as the one ahead. -/
def Proper : Option Int → List (Nat × Int) → Prop
  | _, [] => True
  | p, (k, x) :: g => 0 < k ∧ p ≠ some x ∧ Proper (some x) g
theorem proper_join (x : Int) (g : List (Nat × Int)) (h : Proper none g) : Proper none (join1 x g) := by
  cases g with
  | nil => exact ⟨by omega, by simp, trivial⟩
  | cons p g =>
    obtain ⟨k, y⟩ := p
    by_cases e : y = x
    · subst e
      rw [join1_same]
      exact ⟨by omega, by simp, h.2.2⟩
    · rw [join1_other e]
      exact ⟨by omega, by simp, h.1, by simp; exact fun h => e h.symm, h.2.2⟩
theorem proper_grp (L : List Int) : Proper none (grp L) := by
  induction L with
  | nil => trivial
  | cons x L ih => exact proper_join x _ ih
theorem grp_rep (k : Nat) (x : Int) (L : List Int) (g : List (Nat × Int)) (hL : grp L = g) (hx : ∀ p ∈ g.head?, p.2 ≠ x) : grp (List.replicate (k + 1) x ++ L) = (k + 1, x) :: g := by
  induction k with
  | zero =>
    show join1 x (grp L) = _
    rw [hL]
    cases g with
    | nil => rfl
    | cons p g =>
      obtain ⟨j, y⟩ := p
      exact join1_other (hx (j, y) (by simp)) j g
  | succ k ih =>
    rw [List.replicate_succ]
    show join1 x (grp (List.replicate (k + 1) x ++ L)) = _
    rw [ih, join1_same]
theorem grp_spread : ∀ (g : List (Nat × Int)) (p : Option Int), Proper p g → grp (spread g) = g
  | [], _, _ => rfl
  | (k, x) :: g, p, h => by
    obtain ⟨hk, _, hg⟩ := h
    have e : spread ((k, x) :: g) = List.replicate k x ++ spread g := by simp [spread]
    obtain ⟨j, rfl⟩ : ∃ j, k = j + 1 := ⟨k - 1, by omega⟩
    rw [e]
    refine grp_rep j x (spread g) g (grp_spread g _ hg) fun q hq => ?_
    cases g with
    | nil => cases hq
    | cons q' g =>
      obtain ⟨i, y⟩ := q'
      obtain rfl : (i, y) = q := by simpa using hq
      intro e
      exact hg.2.1 (by simp only at e; rw [e])
/-- A run's bytes. -/
def encR (p : Nat × Int) : List UInt8 := encU p.1 ++ encI p.2
/-- Runs of m numbers in all. -/
def rdRuns : Nat → Nat → Option Int → List UInt8 → Nat × List (Nat × Int) × List UInt8
  | _, 0, _, l => (0, [], l)
  | 0, _, _, l => (0, [], l)
  | f + 1, m, p, l =>
    if (num l).2.2 ≠ 0 then ((num l).2.2, [], l)
    else if (num l).1 = 0 ∨ m < (num l).1 then (4, [], l)
    else if (num (rest l)).2.2 ≠ 0 then ((num (rest l)).2.2, [], l)
    else if p = some (sg (rest l)) then (4, [], l)
    else ((rdRuns f (m - (num l).1) (some (sg (rest l))) (rest (rest l))).1, ((num l).1, sg (rest l)) :: (rdRuns f (m - (num l).1) (some (sg (rest l))) (rest (rest l))).2.1, (rdRuns f (m - (num l).1) (some (sg (rest l))) (rest (rest l))).2.2)
def total (g : List (Nat × Int)) : Nat := (g.map (·.1)).sum
theorem rdRuns_zero (f : Nat) (p : Option Int) (l : List UInt8) : rdRuns f 0 p l = (0, [], l) := by cases f <;> rfl
theorem rdRuns_back : ∀ (g : List (Nat × Int)) (f m : Nat) (p : Option Int) (r : List UInt8), m ≤ f → m < 2 ^ 64 → total g = m → Proper p g → (∀ q ∈ g, I64 q.2) → rdRuns f m p (g.flatMap encR ++ r) = (0, g, r)
  | [], f, m, p, r, _, _, ht, _, _ => by
    obtain rfl : m = 0 := by simpa [total] using ht.symm
    rw [rdRuns_zero]
    rfl
  | (k, x) :: g, f, m, p, r, hf, hm, ht, hp, hi => by
    obtain ⟨hk, hne, hg⟩ := hp
    have ht2 : k + total g = m := by simpa [total] using ht
    obtain ⟨m', rfl⟩ : ∃ m', m = m' + 1 := ⟨m - 1, by omega⟩
    obtain ⟨f', rfl⟩ : ∃ f', f = f' + 1 := ⟨f - 1, by omega⟩
    have e : ((k, x) :: g).flatMap encR ++ r = encU k ++ (encI x ++ (g.flatMap encR ++ r)) := by simp [encR]
    obtain ⟨a1, a2, a3⟩ := read_encU k (show U64 k by unfold U64; omega) (encI x ++ (g.flatMap encR ++ r))
    obtain ⟨b1, b2, b3⟩ := read_encI x (hi (k, x) (by simp)) (g.flatMap encR ++ r)
    rw [e]
    simp only [rdRuns]
    rw [if_neg (by rw [a1]; simp), a2, if_neg (by omega), a3, if_neg (by rw [b1]; simp), b2, if_neg hne, b3, rdRuns_back g f' (m' + 1 - k) (some x) r (by omega) (by omega) (by omega) hg fun q hq => hi q (by simp [hq])]
theorem rdRuns_only : ∀ (f m : Nat) (p : Option Int) (l : List UInt8), m ≤ f → (rdRuns f m p l).1 = 0 → l = (rdRuns f m p l).2.1.flatMap encR ++ (rdRuns f m p l).2.2 ∧ total (rdRuns f m p l).2.1 = m ∧ Proper p (rdRuns f m p l).2.1 ∧ ∀ q ∈ (rdRuns f m p l).2.1, I64 q.2
  | f, 0, p, l, _, _ => by
    rw [rdRuns_zero]
    exact ⟨rfl, rfl, trivial, fun q hq => by cases hq⟩
  | 0, m + 1, _, _, hf, _ => by omega
  | f + 1, m + 1, p, l, hf, h => by
    simp only [rdRuns] at h ⊢
    by_cases h1 : (num l).2.2 ≠ 0
    · rw [if_pos h1] at h
      exact absurd h h1
    · rw [if_neg h1] at h ⊢
      by_cases h2 : (num l).1 = 0 ∨ m + 1 < (num l).1
      · rw [if_pos h2] at h
        cases h
      · rw [if_neg h2] at h ⊢
        by_cases h3 : (num (rest l)).2.2 ≠ 0
        · rw [if_pos h3] at h
          exact absurd h h3
        · rw [if_neg h3] at h ⊢
          by_cases h4 : p = some (sg (rest l))
          · rw [if_pos h4] at h
            cases h
          · rw [if_neg h4] at h ⊢
            obtain ⟨e1, e2, e3, e4⟩ := rdRuns_only f (m + 1 - (num l).1) (some (sg (rest l))) (rest (rest l)) (by omega) h
            refine ⟨?_, ?_, ⟨by omega, h4, e3⟩, ?_⟩
            · simp only [List.flatMap_cons, List.append_assoc, encR]
              rw [← e1, ← splitI (by simpa using h3)]
              exact splitU (by simpa using h1)
            · simp only [total, List.map_cons, List.sum_cons] at e2 ⊢
              omega
            · intro q hq
              rcases List.mem_cons.1 hq with rfl | hq
              · exact sg_i64 _
              · exact e4 q hq
theorem total_spread (g : List (Nat × Int)) : (spread g).length = total g := by
  induction g with
  | nil => rfl
  | cons p g ih =>
    have e : spread (p :: g) = List.replicate p.1 p.2 ++ spread g := by simp [spread]
    rw [e, List.length_append, ih]
    simp [total]
theorem grp_i64 (L : List Int) (h : ∀ x ∈ L, I64 x) : ∀ q ∈ grp L, I64 q.2 := by
  intro q hq
  have hp : ∀ (g : List (Nat × Int)) (p : Option Int), Proper p g → ∀ q ∈ g, q.2 ∈ spread g := by
    intro g
    induction g with
    | nil => intro _ _ q hq; cases hq
    | cons a g ih =>
      intro p hp q hq
      have e : spread (a :: g) = List.replicate a.1 a.2 ++ spread g := by simp [spread]
      rw [e]
      rcases List.mem_cons.1 hq with rfl | hq
      · exact List.mem_append_left _ (List.mem_replicate.2 ⟨by have := hp.1; omega, rfl⟩)
      · exact List.mem_append_right _ (ih _ hp.2.2 q hq)
  have := hp _ _ (proper_grp L) q hq
  rw [spread_grp] at this
  exact h _ this
theorem spread_i64 (g : List (Nat × Int)) (h : ∀ q ∈ g, I64 q.2) : ∀ x ∈ spread g, I64 x := by
  intro x hx
  obtain ⟨q, hq, hx⟩ := List.mem_flatMap.1 hx
  rw [List.mem_replicate] at hx
  rw [hx.2]
  exact h q hq
/-- The smallest one. -/
def low : List Int → Int
  | [] => 0
  | x :: xs => xs.foldl min x
theorem foldl_min (l : List Int) : ∀ x : Int, l.foldl min x ≤ x ∧ (∀ y ∈ l, l.foldl min x ≤ y) ∧ (l.foldl min x = x ∨ l.foldl min x ∈ l) := by
  induction l with
  | nil => intro x; exact ⟨Int.le_refl _, (fun y hy => by cases hy), .inl rfl⟩
  | cons z l ih =>
    intro x
    obtain ⟨h1, h2, h3⟩ := ih (min x z)
    simp only [List.foldl_cons]
    refine ⟨by omega, fun y hy => ?_, ?_⟩
    · rcases List.mem_cons.1 hy with rfl | hy
      · omega
      · exact h2 y hy
    · rcases h3 with h3 | h3
      · by_cases h : x ≤ z
        · exact .inl (by rw [h3]; omega)
        · exact .inr (by rw [h3, show min x z = z by omega]; simp)
      · exact .inr (List.mem_cons_of_mem _ h3)
theorem low_le (L : List Int) : ∀ x ∈ L, low L ≤ x := by
  cases L with
  | nil => intro x hx; cases hx
  | cons a L =>
    intro x hx
    obtain ⟨h1, h2, _⟩ := foldl_min L a
    rcases List.mem_cons.1 hx with rfl | hx
    · exact h1
    · exact h2 x hx
theorem low_mem (L : List Int) (h : L ≠ []) : low L ∈ L := by
  cases L with
  | nil => exact absurd rfl h
  | cons a L =>
    obtain ⟨_, _, h3⟩ := foldl_min L a
    rcases h3 with h3 | h3
    · show L.foldl min a ∈ a :: L
      rw [h3]; simp
    · exact List.mem_cons_of_mem _ h3
theorem low_is (L : List Int) (x : Int) (h : x ∈ L) (hl : ∀ y ∈ L, x ≤ y) : low L = x := Int.le_antisymm (low_le L x h) (hl _ (low_mem L (by intro e; rw [e] at h; cases h)))
/-- The differences from the smallest one. -/
def off (L : List Int) (i : Nat) : Nat := (L.getD i (low L) - low L).toNat
theorem off_lt (L : List Int) (h : ∀ x ∈ L, I64 x) (i : Nat) : off L i < 2 ^ 64 := by
  unfold off
  rw [List.getD]
  cases hg : L[i]? with
  | none => simp
  | some x =>
    have hx := h x (List.mem_of_getElem? hg)
    have hne : L ≠ [] := by intro e; rw [e] at hg; cases hg
    have hl := h _ (low_mem L hne)
    unfold I64 at hx hl
    simp only [Option.getD_some]
    omega
/-- The bytes of the differences. -/
def encP (L : List Int) : List UInt8 := if L = [] then [] else encI (low L) ++ (UInt8.ofNat (Bt.wid L.length (off L)) :: (Bt.bytes (Bt.need (L.length * Bt.wid L.length (off L))) (Bt.pk L.length (off L) (Bt.wid L.length (off L)))).data.toList)
/-- The numbers of w bits in bytes, as Unpack has them. -/
def un (s : ByteArray) (w i : Nat) : Nat := Bt.num w (fun j => Bt.bit s (i * w + j))
/-- The elements out of the smallest one and the differences. -/
def outs (n : Nat) (x : Int) (X : Nat → Nat) : List Int := (List.range n).map fun i => wrap64 (x + (X i : Int))
/-- What is right of the differences. -/
def good (n w : Nat) (x : Int) (X : Nat → Nat) : Bool := (List.range n).any (fun i => X i == 0) && (Bt.wid n X == w) && (low (outs n x X) == x)
/-- Packed numbers, at least one. -/
def rdPacked (n : Nat) (l : List UInt8) : Nat × List Int × List UInt8 :=
  if (num l).2.2 ≠ 0 then ((num l).2.2, [], l)
  else match rest l with
    | [] => (2, [], l)
    | b :: r =>
      if 64 < b.toNat then (4, [], l)
      else if r.length < Bt.need (n * b.toNat) then (2, [], l)
      else if Bt.chk ⟨(r.take (Bt.need (n * b.toNat))).toArray⟩ (n * b.toNat) ≠ 0 then (Bt.chk ⟨(r.take (Bt.need (n * b.toNat))).toArray⟩ (n * b.toNat), [], l)
      else if good n b.toNat (sg l) (un ⟨(r.take (Bt.need (n * b.toNat))).toArray⟩ b.toNat) = true then (0, outs n (sg l) (un ⟨(r.take (Bt.need (n * b.toNat))).toArray⟩ b.toNat), r.drop (Bt.need (n * b.toNat)))
      else (4, [], l)
theorem outs_off (L : List Int) (h : ∀ x ∈ L, I64 x) : outs L.length (low L) (off L) = L := by
  unfold outs
  refine List.ext_getElem (by simp) fun i h1 h2 => ?_
  rw [List.getElem_map, List.getElem_range]
  have hx := h _ (List.getElem_mem h2)
  have hl := low_le L _ (List.getElem_mem h2)
  have e : ((off L i : Nat) : Int) = L[i] - low L := by
    unfold off
    rw [List.getD, List.getElem?_eq_getElem h2]
    simp only [Option.getD_some]
    omega
  rw [e]
  unfold I64 at hx
  unfold wrap64
  omega
theorem good_off (L : List Int) (hne : L ≠ []) (h : ∀ x ∈ L, I64 x) : good L.length (Bt.wid L.length (off L)) (low L) (off L) = true := by
  unfold good
  rw [outs_off L h]
  obtain ⟨i, hi, e⟩ := List.getElem_of_mem (low_mem L hne)
  have h0 : off L i = 0 := by
    unfold off
    rw [List.getD, List.getElem?_eq_getElem hi, Option.getD_some, e]
    simp
  have ha : (List.range L.length).any (fun i => off L i == 0) = true := List.any_eq_true.2 ⟨i, List.mem_range.2 hi, by rw [h0]; rfl⟩
  rw [ha]
  simp
theorem good_congr {n w : Nat} {x : Int} {X Y : Nat → Nat} (h : ∀ i, i < n → X i = Y i) : good n w x X = good n w x Y := by
  have e1 : (List.range n).any (fun i => X i == 0) = (List.range n).any (fun i => Y i == 0) := by
    rw [Bool.eq_iff_iff, List.any_eq_true, List.any_eq_true]
    constructor
    · rintro ⟨i, hi, e⟩
      exact ⟨i, hi, by rw [← h i (List.mem_range.1 hi)]; exact e⟩
    · rintro ⟨i, hi, e⟩
      exact ⟨i, hi, by rw [h i (List.mem_range.1 hi)]; exact e⟩
  have e2 : Bt.orN n X = Bt.orN n Y := by
    have : ∀ k, k ≤ n → Bt.orN k X = Bt.orN k Y := by
      intro k
      induction k with
      | zero => intro _; rfl
      | succ k ih => intro hk; simp only [Bt.orN]; rw [ih (by omega), h k (by omega)]
    exact this n (Nat.le_refl _)
  have e3 : outs n x X = outs n x Y := List.map_congr_left fun i hi => by rw [h i (List.mem_range.1 hi)]
  unfold good Bt.wid
  rw [e1, e2, e3]
theorem outs_congr {n : Nat} {x : Int} {X Y : Nat → Nat} (h : ∀ i, i < n → X i = Y i) : outs n x X = outs n x Y := List.map_congr_left fun i hi => by rw [h i (List.mem_range.1 hi)]
theorem rdPacked_back (L : List Int) (hne : L ≠ []) (h : ∀ x ∈ L, I64 x) (r : List UInt8) : rdPacked L.length (encP L ++ r) = (0, L, r) := by
  unfold encP
  rw [if_neg hne]
  have hw := Bt.wid_64 (n := L.length) (off_lt L h)
  have hX := (Bt.wid_le L.length (off L) _).1 (Nat.le_refl _)
  have hg := good_off L hne h
  have ho := outs_off L h
  have hB := fun i hi => Bt.back (n := L.length) (X := off L) (i := i) hi (hX i hi)
  have hC := Bt.chk_pack L.length (off L) (Bt.wid L.length (off L))
  generalize Bt.wid L.length (off L) = w at hw hg hB hC ⊢
  have hsz := Bt.size_bytes (Bt.need (L.length * w)) (Bt.pk L.length (off L) w)
  generalize Bt.bytes (Bt.need (L.length * w)) (Bt.pk L.length (off L) w) = s at hB hC hsz ⊢
  have hl := h _ (low_mem L hne)
  have e : encI (low L) ++ (UInt8.ofNat w :: s.data.toList) ++ r = encI (low L) ++ (UInt8.ofNat w :: (s.data.toList ++ r)) := by simp
  obtain ⟨a1, a2, a3⟩ := read_encI (low L) hl (UInt8.ofNat w :: (s.data.toList ++ r))
  have hwn : (UInt8.ofNat w).toNat = w := by simp [UInt8.toNat_ofNat']; omega
  have hlen := Bt.length_data s
  have et : (s.data.toList ++ r).take (Bt.need (L.length * w)) = s.data.toList := by
    rw [← hsz, ← hlen]; simp
  have ed : (s.data.toList ++ r).drop (Bt.need (L.length * w)) = r := by
    rw [← hsz, ← hlen]; simp
  have es : (⟨s.data.toList.toArray⟩ : ByteArray) = s := rfl
  rw [e]
  unfold rdPacked
  rw [if_neg (by rw [a1]; simp), a3, a2]
  simp only [hwn]
  rw [if_neg (by omega), if_neg (by rw [List.length_append, hlen, hsz]; omega), et, ed, es, if_neg (by rw [hC]; simp)]
  have hc : ∀ i, i < L.length → un s w i = off L i := fun i hi => hB i hi
  rw [good_congr hc, if_pos hg, outs_congr hc, ho]
theorem rdPacked_only (n : Nat) (hn : 0 < n) (l : List UInt8) (h : (rdPacked n l).1 = 0) : l = encP (rdPacked n l).2.1 ++ (rdPacked n l).2.2 ∧ (rdPacked n l).2.1.length = n ∧ ∀ x ∈ (rdPacked n l).2.1, I64 x := by
  unfold rdPacked at h ⊢
  by_cases h1 : (num l).2.2 ≠ 0
  · rw [if_pos h1] at h
    exact absurd h h1
  · rw [if_neg h1] at h ⊢
    have hs := splitI (l := l) (by simpa using h1)
    cases hr : rest l with
    | nil => rw [hr] at h; cases h
    | cons b r =>
      rw [hr] at h
      simp only at h ⊢
      by_cases h2 : 64 < b.toNat
      · rw [if_pos h2] at h; cases h
      · rw [if_neg h2] at h ⊢
        by_cases h3 : r.length < Bt.need (n * b.toNat)
        · rw [if_pos h3] at h; cases h
        · rw [if_neg h3] at h ⊢
          by_cases h4 : Bt.chk ⟨(r.take (Bt.need (n * b.toNat))).toArray⟩ (n * b.toNat) ≠ 0
          · rw [if_pos h4] at h
            exact absurd h h4
          · rw [if_neg h4] at h ⊢
            have hC : Bt.chk ⟨(r.take (Bt.need (n * b.toNat))).toArray⟩ (n * b.toNat) = 0 := by simpa using h4
            by_cases h5 : good n b.toNat (sg l) (un ⟨(r.take (Bt.need (n * b.toNat))).toArray⟩ b.toNat) = true
            · rw [if_pos h5]
              have hO := Bt.only hC
              have hlt : ∀ i, un ⟨(r.take (Bt.need (n * b.toNat))).toArray⟩ b.toNat i < 2 ^ b.toNat := fun i => Bt.num_lt _ _
              have hlt64 : ∀ i, un ⟨(r.take (Bt.need (n * b.toNat))).toArray⟩ b.toNat i < 2 ^ 64 := fun i => Nat.lt_of_lt_of_le (hlt i) (Nat.pow_le_pow_right (by decide) (by omega))
              have hun : (fun i => Bt.num b.toNat (fun j => Bt.bit ⟨(r.take (Bt.need (n * b.toNat))).toArray⟩ (i * b.toNat + j))) = un ⟨(r.take (Bt.need (n * b.toNat))).toArray⟩ b.toNat := rfl
              rw [hun] at hO
              unfold good at h5
              simp only [Bool.and_eq_true, beq_iff_eq] at h5
              obtain ⟨⟨_, hW⟩, hL⟩ := h5
              generalize hX : un ⟨(r.take (Bt.need (n * b.toNat))).toArray⟩ b.toNat = X at hO hlt hlt64 hW hL ⊢
              have hlen : (outs n (sg l) X).length = n := by simp [outs]
              have hne : outs n (sg l) X ≠ [] := by intro e; rw [e] at hlen; simp at hlen; omega
              have hi64 : ∀ x ∈ outs n (sg l) X, I64 x := by
                intro x hx
                obtain ⟨i, _, rfl⟩ := List.mem_map.1 hx
                exact wrap_i64 _
              have hoff : ∀ i, i < n → off (outs n (sg l) X) i = X i := by
                intro i hi
                have hg : (outs n (sg l) X)[i]? = some (wrap64 (sg l + (X i : Int))) := by simp [outs, hi]
                have hle := low_le _ _ (List.mem_of_getElem? hg)
                unfold off
                rw [List.getD, hg, Option.getD_some, hL]
                rw [hL] at hle
                have hx := hlt64 i
                have hl := sg_i64 l
                unfold I64 at hl
                unfold wrap64 at hle ⊢
                omega
              have hwid : Bt.wid n (off (outs n (sg l) X)) = b.toNat := by
                have e : Bt.orN n (off (outs n (sg l) X)) = Bt.orN n X := by
                  have : ∀ k, k ≤ n → Bt.orN k (off (outs n (sg l) X)) = Bt.orN k X := by
                    intro k
                    induction k with
                    | zero => intro _; rfl
                    | succ k ih => intro hk; simp only [Bt.orN]; rw [ih (by omega), hoff k (by omega)]
                  exact this n (Nat.le_refl _)
                unfold Bt.wid at hW ⊢
                rw [e]; exact hW
              have hpk : Bt.bytes (Bt.need (n * b.toNat)) (Bt.pk n (off (outs n (sg l) X)) b.toNat) = Bt.bytes (Bt.need (n * b.toNat)) (Bt.pk n X b.toNat) := by
                refine Bt.bytes_congr fun x _ => ?_
                unfold Bt.pk
                by_cases hx : x < n * b.toNat
                · have hb0 : 0 < b.toNat := by
                    rcases Nat.eq_zero_or_pos b.toNat with h0 | h0
                    · rw [h0] at hx; simp at hx
                    · exact h0
                  rw [hoff (x / b.toNat) ((Nat.div_lt_iff_lt_mul hb0).2 hx)]
                · simp [hx]
              refine ⟨?_, hlen, hi64⟩
              unfold encP
              rw [if_neg hne, hlen, hL, hwid, hpk, hO]
              have hub : UInt8.ofNat b.toNat = b := by simp
              rw [hub]
              have : encI (sg l) ++ (b :: (⟨(r.take (Bt.need (n * b.toNat))).toArray⟩ : ByteArray).data.toList) ++ r.drop (Bt.need (n * b.toNat)) = encI (sg l) ++ (b :: r) := by
                simp
              rw [this, ← hr]
              exact hs
            · rw [if_neg h5] at h; cases h
/-- The encoding of a column by a codec. -/
def body (k : Nat) (L : List Int) : List UInt8 := if k = 0 then L.flatMap encI else if k = 1 then (diffs 0 L).flatMap encI else if k = 2 then (grp L).flatMap encR else encP L
def enc (k : Nat) (L : List Int) : List UInt8 := UInt8.ofNat k :: (encU L.length ++ body k L)
/-- So many elements by a codec. -/
def rdBody (k n : Nat) (l : List UInt8) : Nat × List Int × List UInt8 :=
  if k = 0 then rdInts n l
  else if k = 1 then ((rdInts n l).1, acc 0 (rdInts n l).2.1, (rdInts n l).2.2)
  else if k = 2 then ((rdRuns n n none l).1, spread (rdRuns n n none l).2.1, (rdRuns n n none l).2.2)
  else if n = 0 then (0, [], l) else rdPacked n l
/-- What is read of bytes: the first error, the elements. -/
def rd (l : List UInt8) : Nat × List Int :=
  match l with
  | [] => (2, [])
  | b :: r =>
    if 3 < b.toNat then (4, [])
    else if (num r).2.2 ≠ 0 then ((num r).2.2, [])
    else if 65536 < (num r).1 then (3, [])
    else if (rdBody b.toNat (num r).1 (rest r)).1 ≠ 0 then ((rdBody b.toNat (num r).1 (rest r)).1, [])
    else if (rdBody b.toNat (num r).1 (rest r)).2.2 ≠ [] then (5, [])
    else (0, (rdBody b.toNat (num r).1 (rest r)).2.1)
theorem rdBody_back (k : Nat) (L : List Int) (h : ∀ x ∈ L, I64 x) (hl : L.length < 2 ^ 64) (r : List UInt8) : rdBody k L.length (body k L ++ r) = (0, L, r) := by
  have h0 : I64 0 := by unfold I64; omega
  unfold rdBody body
  by_cases h1 : k = 0
  · simp only [h1, if_true]
    exact rdInts_back L h r
  · by_cases h2 : k = 1
    · simp only [h2, if_false, if_true, Nat.one_ne_zero]
      have := rdInts_back (diffs 0 L) (diffs_i64 L 0) r
      rw [diffs_len] at this
      rw [this]
      simp only [acc_diffs L 0 h0 h]
    · by_cases h3 : k = 2
      · subst h3
        simp only [if_true, if_false, show ¬ (2 : Nat) = 0 by omega, show ¬ (2 : Nat) = 1 by omega]
        have e : total (grp L) = L.length := by rw [← total_spread, spread_grp]
        have := rdRuns_back (grp L) L.length L.length none r (Nat.le_refl _) hl e (proper_grp L) (grp_i64 L h)
        rw [this]
        simp only [spread_grp]
      · simp only [h1, h2, h3, if_false]
        by_cases hne : L = []
        · subst hne
          simp [encP]
        · rw [if_neg (by intro e; exact hne (List.eq_nil_of_length_eq_zero e))]
          exact rdPacked_back L hne h r
theorem rdBody_only (k n : Nat) (l : List UInt8) (h : (rdBody k n l).1 = 0) : l = body k (rdBody k n l).2.1 ++ (rdBody k n l).2.2 ∧ (rdBody k n l).2.1.length = n ∧ ∀ x ∈ (rdBody k n l).2.1, I64 x := by
  have h0 : I64 0 := by unfold I64; omega
  unfold rdBody at h ⊢
  unfold body
  by_cases h1 : k = 0
  · simp only [h1, if_true] at h ⊢
    exact rdInts_only n l h
  · by_cases h2 : k = 1
    · simp only [h2, if_false, if_true, Nat.one_ne_zero] at h ⊢
      obtain ⟨e1, e2, e3⟩ := rdInts_only n l h
      exact ⟨by rw [diffs_acc _ 0 h0 e3]; exact e1, by rw [acc_len]; exact e2, acc_i64 _ 0⟩
    · by_cases h3 : k = 2
      · subst h3
        simp only [if_true, if_false, show ¬ (2 : Nat) = 0 by omega, show ¬ (2 : Nat) = 1 by omega] at h ⊢
        obtain ⟨e1, e2, e3, e4⟩ := rdRuns_only n n none l (Nat.le_refl _) h
        exact ⟨by rw [grp_spread _ none e3]; exact e1, by rw [total_spread]; exact e2, spread_i64 _ e4⟩
      · simp only [h1, h2, h3, if_false] at h ⊢
        by_cases hn : n = 0
        · subst hn
          simp [encP]
        · rw [if_neg hn] at h ⊢
          exact rdPacked_only n (by omega) l h
/-- THERE AND BACK. -/
theorem rd_enc (k : Nat) (hk : k ≤ 3) (L : List Int) (h : ∀ x ∈ L, I64 x) (hl : L.length ≤ 65536) : rd (enc k L) = (0, L) := by
  have hkn : (UInt8.ofNat k).toNat = k := by simp [UInt8.toNat_ofNat']; omega
  obtain ⟨a1, a2, a3⟩ := read_encU L.length (show U64 L.length by unfold U64; omega) (body k L)
  have hb := rdBody_back k L h (by omega) []
  rw [List.append_nil] at hb
  unfold rd enc
  simp only [hkn]
  rw [if_neg (by omega), if_neg (by rw [a1]; simp), a2, if_neg (by omega), a3, hb]
  simp
/-- IN ONE WAY. -/
theorem enc_rd (l : List UInt8) (h : (rd l).1 = 0) : ∃ b r, l = b :: r ∧ b.toNat ≤ 3 ∧ enc b.toNat (rd l).2 = l ∧ (rd l).2.length ≤ 65536 ∧ ∀ x ∈ (rd l).2, I64 x := by
  unfold rd at h ⊢
  cases l with
  | nil => cases h
  | cons b r =>
    simp only at h ⊢
    refine ⟨b, r, rfl, ?_⟩
    by_cases h1 : 3 < b.toNat
    · rw [if_pos h1] at h; cases h
    · rw [if_neg h1] at h ⊢
      by_cases h2 : (num r).2.2 ≠ 0
      · rw [if_pos h2] at h
        exact absurd h h2
      · rw [if_neg h2] at h ⊢
        by_cases h3 : 65536 < (num r).1
        · rw [if_pos h3] at h; cases h
        · rw [if_neg h3] at h ⊢
          by_cases h4 : (rdBody b.toNat (num r).1 (rest r)).1 ≠ 0
          · rw [if_pos h4] at h
            exact absurd h h4
          · rw [if_neg h4] at h ⊢
            by_cases h5 : (rdBody b.toNat (num r).1 (rest r)).2.2 ≠ []
            · rw [if_pos h5] at h; cases h
            · rw [if_neg h5]
              obtain ⟨e1, e2, e3⟩ := rdBody_only b.toNat (num r).1 (rest r) (by simpa using h4)
              have e5 : (rdBody b.toNat (num r).1 (rest r)).2.2 = [] := by simpa using h5
              rw [e5, List.append_nil] at e1
              refine ⟨by omega, ?_, by rw [e2]; omega, e3⟩
              unfold enc
              rw [e2, ← e1, ← splitU (by simpa using h2)]
              simp
end Go.Proofs.YtcognkgabdaneaaGreatDoor.Ig

namespace Go.Proofs.YtcognkgabdaneaaGreatDoor.Ig
open Go.RowKit
open Ty (num encU zig zag I64 U64)
/-- The i-th number. -/
def nth (L : List Int) (i : Nat) : Int := L.getD i 0
theorem nth_mem {L : List Int} {i : Nat} (h : i < L.length) : nth L i ∈ L := by
  unfold nth
  rw [List.getD, List.getElem?_eq_getElem h]
  exact List.getElem_mem h
theorem nth_get {L : List Int} {i : Nat} (h : i < L.length) : nth L i = L[i] := by
  unfold nth
  rw [List.getD, List.getElem?_eq_getElem h]
  rfl
theorem nth_i64 {L : List Int} (hL : ∀ x ∈ L, I64 x) {i : Nat} (h : i < L.length) : I64 (nth L i) := hL _ (nth_mem h)
theorem len_encI (x : Int) : (encI x).length ≤ 9 := Ty.encU_len9 _
theorem len_flat (L : List Int) : (L.flatMap encI).length ≤ 9 * L.length := by
  induction L with
  | nil => simp
  | cons x L ih =>
    have := len_encI x
    simp only [List.flatMap_cons, List.length_append, List.length_cons]
    omega
theorem take_next {L : List Int} {k : Nat} (h : k < L.length) : L.take (k + 1) = L.take k ++ [nth L k] := by
  rw [List.take_succ_eq_append_getElem h, nth_get h]
theorem flat_next {L : List Int} {k : Nat} (h : k < L.length) : (L.take (k + 1)).flatMap encI = (L.take k).flatMap encI ++ encI (nth L k) := by
  rw [take_next h, List.flatMap_append]
  simp
theorem len_flat_take (L : List Int) (k : Nat) : ((L.take k).flatMap encI).length ≤ 9 * k := by
  have h1 := len_flat (L.take k)
  have h2 : (L.take k).length ≤ k := List.length_take_le _ _
  omega
/-- The number ahead of the i-th one; 0 ahead of the first. -/
def prv (L : List Int) : Nat → Int
  | 0 => 0
  | k + 1 => nth L k
theorem diffs_nth : ∀ (L : List Int) (p : Int) (k : Nat), k < L.length → nth (diffs p L) k = wrap64 (nth L k - (match k with | 0 => p | j + 1 => nth L j))
  | [], _, _, h => by simp at h
  | x :: L, p, 0, _ => rfl
  | x :: L, p, k + 1, h => by
    have hk : k < L.length := by simpa using h
    have ih := diffs_nth L x k hk
    have e1 : nth (diffs p (x :: L)) (k + 1) = nth (diffs x L) k := by simp [nth, diffs]
    have e2 : nth (x :: L) (k + 1) = nth L k := by simp [nth]
    rw [e1, e2, ih]
    cases k with
    | zero => rfl
    | succ j =>
      have : nth (x :: L) (j + 1) = nth L j := by simp [nth]
      simp only [this]
theorem diffs_at {L : List Int} {k : Nat} (h : k < L.length) : nth (diffs 0 L) k = wrap64 (nth L k - prv L k) := by
  rw [diffs_nth L 0 k h]
  cases k <;> rfl
theorem prv_i64 {L : List Int} (hL : ∀ x ∈ L, I64 x) {k : Nat} (h : k < L.length) : I64 (prv L k) := by
  cases k with
  | zero => show I64 0; unfold I64; omega
  | succ j => exact nth_i64 hL (by omega)
/-- The first k numbers are a maximal run. -/
def Run (L : List Int) (k : Nat) : Prop := 0 < k ∧ k ≤ L.length ∧ (∀ j, j < k → nth L j = nth L 0) ∧ (k < L.length → nth L k ≠ nth L 0)
theorem nth_drop (L : List Int) (k i : Nat) : nth (L.drop k) i = nth L (k + i) := by
  unfold nth
  rw [List.getD, List.getD, List.getElem?_drop]
theorem rep_of {L : List Int} {k : Nat} (hk : k ≤ L.length) {x : Int} (h : ∀ j, j < k → nth L j = x) : L = List.replicate k x ++ L.drop k := by
  have e : L.take k = List.replicate k x := by
    refine List.eq_replicate_iff.2 ⟨by rw [List.length_take]; omega, fun y hy => ?_⟩
    obtain ⟨i, hi, rfl⟩ := List.getElem_of_mem hy
    rw [List.length_take] at hi
    have := h i (by omega)
    rw [nth_get (by omega)] at this
    rw [List.getElem_take]
    exact this
  conv => lhs; rw [← List.take_append_drop k L, e]
theorem grp_head (L : List Int) : ∀ p ∈ (grp L).head?, p.2 = nth L 0 := by
  cases L with
  | nil => intro p hp; cases hp
  | cons x L =>
    intro p hp
    show p.2 = x
    unfold grp at hp
    cases hg : grp L with
    | nil =>
      rw [hg] at hp
      have : p = (1, x) := by simpa [join1] using hp.symm
      rw [this]
    | cons q g =>
      obtain ⟨j, y⟩ := q
      rw [hg] at hp
      by_cases e : y = x
      · subst e
        rw [join1_same] at hp
        have : p = (j + 1, y) := by simpa using hp.symm
        rw [this]
      · rw [join1_other e] at hp
        have : p = (1, x) := by simpa using hp.symm
        rw [this]
theorem grp_run {L : List Int} {k : Nat} (h : Run L k) : grp L = (k, nth L 0) :: grp (L.drop k) := by
  obtain ⟨h0, h1, h2, h3⟩ := h
  obtain ⟨j, rfl⟩ : ∃ j, k = j + 1 := ⟨k - 1, by omega⟩
  conv => lhs; rw [rep_of h1 h2]
  refine grp_rep j (nth L 0) (L.drop (j + 1)) _ rfl fun p hp => ?_
  have e := grp_head (L.drop (j + 1)) p hp
  have hne : L.drop (j + 1) ≠ [] := by intro e; rw [e] at hp; cases hp
  have hl : j + 1 < L.length := by
    rcases Nat.lt_or_ge (j + 1) L.length with h | h
    · exact h
    · exact absurd (List.drop_eq_nil_of_le h) hne
  rw [e, nth_drop]
  exact h3 hl
theorem run_uniq {L : List Int} {k j : Nat} (h : Run L k) (g : Run L j) : k = j := by
  have e := (grp_run h).symm.trans (grp_run g)
  have := (List.cons.inj e).1
  exact (Prod.mk.inj this).1
/-- The bytes of the runs up to k numbers: what is still to come is those of the others. -/
theorem runs_next {L : List Int} {k : Nat} (h : Run L k) : (grp L).flatMap encR = (encU k ++ encI (nth L 0)) ++ (grp (L.drop k)).flatMap encR := by
  rw [grp_run h]
  simp [encR]
theorem low_next {L : List Int} {k : Nat} (h0 : 0 < k) (h : k < L.length) : low (L.take (k + 1)) = min (low (L.take k)) (nth L k) := by
  rw [take_next h]
  cases L with
  | nil => simp at h
  | cons x L =>
    obtain ⟨j, rfl⟩ : ∃ j, k = j + 1 := ⟨k - 1, by omega⟩
    simp only [List.take_succ_cons, List.cons_append, low, List.foldl_append, List.foldl_cons, List.foldl_nil]
theorem low_one {L : List Int} (h : 0 < L.length) : low (L.take 1) = nth L 0 := by
  cases L with
  | nil => simp at h
  | cons x L => rfl
theorem take_ne {L : List Int} {k : Nat} (h0 : 0 < k) (h : k ≤ L.length) : L.take k ≠ [] := by
  intro e
  have := congrArg List.length e
  rw [List.length_take, List.length_nil] at this
  omega
theorem low_i64 {L : List Int} (hL : ∀ x ∈ L, I64 x) (h : 0 < L.length) : I64 (low L) := hL _ (low_mem L (by intro e; rw [e] at h; simp at h))
theorem lowt_i64 {L : List Int} (hL : ∀ x ∈ L, I64 x) {k : Nat} (h0 : 0 < k) (h : k ≤ L.length) : I64 (low (L.take k)) := hL _ (List.mem_of_mem_take (low_mem _ (take_ne h0 h)))
theorem off_nth {L : List Int} {i : Nat} (h : i < L.length) : ((off L i : Nat) : Int) = nth L i - low L := by
  have := low_le L _ (nth_mem h)
  unfold off
  rw [List.getD, List.getElem?_eq_getElem h]
  rw [nth_get h] at this ⊢
  simp only [Option.getD_some]
  omega
/-- A difference as the program computes it. -/
theorem off_wrap {L : List Int} (hL : ∀ x ∈ L, I64 x) {i : Nat} (h : i < L.length) : IntKind.u64.wrap (IntKind.u64.wrap (nth L i) - IntKind.u64.wrap (low L)) = ((off L i : Nat) : Int) := by
  have h1 := nth_i64 hL h
  have h2 := low_i64 hL (by omega)
  have h3 := off_nth h
  have h4 := low_le L _ (nth_mem h)
  unfold I64 at h1 h2
  rw [h3]
  simp only [IntKind.wrap_u64]
  omega
/-- A sum as the program computes it. -/
theorem sum_wrap {x : Int} {n : Nat} : wrap64 (IntKind.u64.wrap (IntKind.u64.wrap x + (n : Int))) = wrap64 (x + (n : Int)) := by
  simp only [IntKind.wrap_u64]
  unfold wrap64
  omega
theorem len_grp (L : List Int) : (grp L).length ≤ L.length := by
  induction L with
  | nil => simp [grp]
  | cons x L ih =>
    have e : grp (x :: L) = join1 x (grp L) := rfl
    rw [e]
    cases hg : grp L with
    | nil => simp [join1]
    | cons q g =>
      obtain ⟨j, y⟩ := q
      rw [hg] at ih
      by_cases h : y = x
      · subst h
        rw [join1_same]
        simp at ih ⊢
        omega
      · rw [join1_other h]
        simp at ih ⊢
        omega
theorem len_encR (g : List (Nat × Int)) : (g.flatMap encR).length ≤ 18 * g.length := by
  induction g with
  | nil => simp
  | cons p g ih =>
    have h1 := Ty.encU_len9 p.1
    have h2 := len_encI p.2
    simp only [List.flatMap_cons, List.length_append, List.length_cons, encR]
    omega
theorem len_runs (L : List Int) : ((grp L).flatMap encR).length ≤ 18 * L.length := by
  have h1 := len_encR (grp L)
  have h2 := len_grp L
  omega
end Go.Proofs.YtcognkgabdaneaaGreatDoor.Ig

namespace Go.Proofs.YtcognkgabdaneaaGreatDoor
open Go.RowKit
open Ig (nth encI encR grp diffs prv low)
/-- The numbers L lie one behind the other below block B. -/
structure Ig.At (B : Nat) (w : World) (v : Value) (L : List Int) : Prop where
  is : ∃ a c, v = .slice a L.length c ∧ L.length ≤ c ∧ B ≤ w.heap.size ∧ (L = [] ∨ ∃ b o, a = some ⟨b, o, none⟩ ∧ b < B ∧ ∀ i, i < L.length → w.cell? ⟨b, o + i, none⟩ = some (.int .i64 (nth L i)))
theorem Ig.At.below {B : Nat} {w w' : World} {v : Value} {L : List Int} (h : Ig.At B w v L) (g : Below B w w') : Ig.At B w' v L := by
  obtain ⟨a, c, rfl, hc, hB, h⟩ := h
  refine ⟨a, c, rfl, hc, Nat.le_trans hB g.size, ?_⟩
  rcases h with h | ⟨b, o, rfl, hlt, h⟩
  · exact .inl h
  · exact .inr ⟨b, o, rfl, hlt, fun i hi => (g.cell (p := ⟨b, o + i, none⟩) hlt).trans (h i hi)⟩
theorem Ig.At.mono {B B' : Nat} {w : World} {v : Value} {L : List Int} (h : Ig.At B w v L) (h1 : B ≤ B') (h2 : B' ≤ w.heap.size) : Ig.At B' w v L := by
  obtain ⟨a, c, rfl, hc, hB, h⟩ := h
  refine ⟨a, c, rfl, hc, h2, ?_⟩
  rcases h with h | ⟨b, o, rfl, hlt, h⟩
  · exact .inl h
  · exact .inr ⟨b, o, rfl, by omega, h⟩
/-- A function as a value. -/
def Ig.fn (k : Nat) : Value := .func (.func k) #[] #[]
/-- The cells of the four codecs' functions; their block. -/
def Ig.csA : Array Value := #[.func (.func 84) #[] #[], .func (.func 85) #[] #[], .func (.func 86) #[] #[], .func (.func 87) #[] #[],
  .func (.func 88) #[] #[], .func (.func 89) #[] #[], .func (.func 90) #[] #[], .func (.func 91) #[] #[]]
def Ig.cs : Obj := .cells Ig.csA 108
set_option maxHeartbeats 1000000 in
theorem Ig.coders_c (w : World) :
    Calls Tryz.prog 60 #[] w fun e w' => e = .returned (.slice (some ⟨w.heap.size, 0, none⟩) 4 4) ∧ w' = w.alloc Ig.cs := by
  go_enter Tryz.func60, Tryz.ntmps60
  go_wp2
  go_ret
  exact ⟨rfl, rfl⟩
theorem Ig.cs_cell (w : World) (i : Nat) (v : Value) (h : Ig.csA[i]? = some v) : (w.alloc Ig.cs).cell? ⟨w.heap.size, i, none⟩ = some v := by
  have hn : (w.alloc Ig.cs).heap[w.heap.size]? = some Ig.cs := Go.Deep.blk_alloc_new _ _
  unfold World.cell?
  simp only [hn]
  exact h
/-- The eight functions in their cells. -/
theorem Ig.cs_at {w : World} {b : Nat} (h : ∀ i v, Ig.csA[i]? = some v → w.cell? ⟨b, i, none⟩ = some v) :
    w.cell? ⟨b, 0, none⟩ = some (.func (.func 84) #[] #[]) ∧ w.cell? ⟨b, 1, none⟩ = some (.func (.func 85) #[] #[]) ∧ w.cell? ⟨b, 2, none⟩ = some (.func (.func 86) #[] #[]) ∧ w.cell? ⟨b, 3, none⟩ = some (.func (.func 87) #[] #[]) ∧ w.cell? ⟨b, 4, none⟩ = some (.func (.func 88) #[] #[]) ∧ w.cell? ⟨b, 5, none⟩ = some (.func (.func 89) #[] #[]) ∧ w.cell? ⟨b, 6, none⟩ = some (.func (.func 90) #[] #[]) ∧ w.cell? ⟨b, 7, none⟩ = some (.func (.func 91) #[] #[]) :=
  ⟨h 0 _ rfl, h 1 _ rfl, h 2 _ rfl, h 3 _ rfl, h 4 _ rfl, h 5 _ rfl, h 6 _ rfl, h 7 _ rfl⟩
theorem Ig.take_full {w w' : World} {base : Nat} {v v' : Value} (g : Ty.Grew w w' v v') (hb : base ≤ w.heap.size) (hv : ∀ k, v.ownBlock = some k → base ≤ k) : Below base w w' := g.below hb hv
set_option maxHeartbeats 1000000 in
theorem Ig.writePlain_c (base : Nat) (v : Value) (bs : List UInt8) (u : Value) (L : List Int) (w : World) (hw : Ty.Tabs w) (hown : Ty.Buf base w v bs) (hb : base ≤ w.heap.size) (hG : Ty.G ≤ base)
    (hL : Ig.At base w u L) (hi : ∀ x ∈ L, Ty.I64 x) (hlen : bs.length ≤ 100) (hl : L.length ≤ 65536) :
    Calls Tryz.prog 84 #[v, u] w (Ty.Written base w v (bs ++ L.flatMap encI)) := by
  have hL0 := hL
  obtain ⟨a, c, rfl, hc, _, h⟩ := hL
  have HI := Lib.hid hi
  have HL := Lib.hid hL0
  have H0 := Lib.hid hown.base
  clear hi hL0
  go_enter Tryz.func84, Tryz.ntmps84
  go_wp2
  go_loopw [0, 9] (fun x i wr => ∃ k : Nat, k ≤ L.length ∧ i = .int .i64 k ∧ Ty.Buf base wr x (bs ++ (L.take k).flatMap encI) ∧ Ty.Grew w wr v x) (fun _ i _ => L.length - (intOf i).toNat)
  case atStart => exact ⟨0, by omega, rfl, by simpa using hown, Ty.Grew.refl _ _⟩
  case round =>
    obtain ⟨k, hk, rfl, hB, hg⟩ := hrel
    have hb1 := Ig.take_full hg hb H0.out
    have hT := hw.below hb1 hG
    have hs := hb1.size
    have HB := Lib.hid hB
    have HG := Lib.hid hg
    clear hB hg
    by_cases hl2 : k < L.length
    · rcases h with h | ⟨b, o, rfl, hlt, h⟩
      · exact absurd hl2 (by rw [h]; simp)
      · have hcell : wr.cell? ⟨b, o + k, none⟩ = some (.int .i64 (nth L k)) := (hb1.cell (p := ⟨b, o + k, none⟩) hlt).trans (h k hl2)
        have hx := Ig.nth_i64 HI.out hl2
        have HN := Lib.hid (Ig.flat_next hl2)
        have hln := Ig.len_flat_take L k
        have c1 := Ty.int_c base _ _ (nth L k) hx wr hT HB.out (by omega) (by rw [List.length_append]; omega)
        have hkl : (k : Int) < (L.length : Int) := by omega
        have hk0 : (0 : Int) ≤ (k : Int) := by omega
        clear h hx hln hT hb1
        go_wp2_with fail
        refine c1.mono ?_
        rintro e w1 ⟨v1, rfl, hB1, hG1⟩
        have HB1 := Lib.hid hB1
        have HG1 := Lib.hid hG1
        clear hB1 hG1 c1
        go_wp2
        go_roundw
        case rel => exact ⟨k + 1, by omega, by simp, by rw [HN.out, ← List.append_assoc]; exact HB1.out, HG.out.trans HG1.out⟩
        case measure => simp [intOf]; omega
    · obtain rfl : k = L.length := by omega
      have hkl : ¬ (L.length : Int) < (L.length : Int) := by omega
      go_wp2
      go_ret
      exact ⟨_, rfl, by have := HB.out; rwa [List.take_length] at this, HG.out⟩
end Go.Proofs.YtcognkgabdaneaaGreatDoor

namespace Go.Proofs.YtcognkgabdaneaaGreatDoor
open Go.RowKit
open Ig (nth encI encR grp diffs prv low)
set_option maxHeartbeats 1000000 in
theorem Ig.writeDelta_c (base : Nat) (v : Value) (bs : List UInt8) (u : Value) (L : List Int) (w : World) (hw : Ty.Tabs w) (hown : Ty.Buf base w v bs) (hb : base ≤ w.heap.size) (hG : Ty.G ≤ base)
    (hL : Ig.At base w u L) (hi : ∀ x ∈ L, Ty.I64 x) (hlen : bs.length ≤ 100) (hl : L.length ≤ 65536) :
    Calls Tryz.prog 86 #[v, u] w (Ty.Written base w v (bs ++ (diffs 0 L).flatMap encI)) := by
  have hD := Ig.diffs_len L 0
  obtain ⟨D, eD⟩ : ∃ D, D = diffs 0 L := ⟨_, rfl⟩
  rw [← eD] at hD ⊢
  obtain ⟨a, c, rfl, hc, _, h⟩ := hL
  have HI := Lib.hid hi
  have HD := Lib.hid hD
  have ED := Lib.hid eD
  have H0 := Lib.hid hown.base
  clear hi hD eD
  go_enter Tryz.func86, Tryz.ntmps86
  go_wp2
  go_loopw [0, 5, 10] (fun x p i wr => ∃ k : Nat, k ≤ L.length ∧ i = .int .i64 k ∧ p = .int .i64 (prv L k) ∧ Ty.Buf base wr x (bs ++ (D.take k).flatMap encI) ∧ Ty.Grew w wr v x) (fun _ _ i _ => L.length - (intOf i).toNat)
  case atStart => exact ⟨0, by omega, rfl, rfl, by simpa using hown, Ty.Grew.refl _ _⟩
  case round =>
    obtain ⟨k, hk, rfl, rfl, hB, hg⟩ := hrel
    have hb1 := Ig.take_full hg hb H0.out
    have hT := hw.below hb1 hG
    have hs := hb1.size
    have HB := Lib.hid hB
    have HG := Lib.hid hg
    clear hB hg
    by_cases hl2 : k < L.length
    · rcases h with h | ⟨b, o, rfl, hlt, h⟩
      · exact absurd hl2 (by rw [h]; simp)
      · have hcell : wr.cell? ⟨b, o + k, none⟩ = some (.int .i64 (nth L k)) := (hb1.cell (p := ⟨b, o + k, none⟩) hlt).trans (h k hl2)
        have hx : Ty.I64 (wrap64 (nth L k - prv L k)) := Ig.wrap_i64 _
        have HN : Hid ((D.take (k + 1)).flatMap encI = (D.take k).flatMap encI ++ encI (wrap64 (nth L k - prv L k))) := Lib.hid (by
          have h1 := Ig.flat_next (L := D) (k := k) (by rw [HD.out]; exact hl2)
          rw [h1, ED.out, Ig.diffs_at hl2])
        have hln := Ig.len_flat_take D k
        have c1 := Ty.int_c base _ _ (wrap64 (nth L k - prv L k)) hx wr hT HB.out (by omega) (by rw [List.length_append]; omega)
        have hkl : (k : Int) < (L.length : Int) := by omega
        have hk0 : (0 : Int) ≤ (k : Int) := by omega
        have HP : Hid (prv L (k + 1) = nth L k) := Lib.hid rfl
        generalize nth L k = x at hcell HN c1 HP
        generalize prv L k = p at HN c1 ⊢
        clear h hx hln hT hb1
        go_wp2_with fail
        refine c1.mono ?_
        rintro e w1 ⟨v1, rfl, hB1, hG1⟩
        have HB1 := Lib.hid hB1
        have HG1 := Lib.hid hG1
        clear hB1 hG1 c1
        go_wp2
        go_roundw
        case rel => exact ⟨k + 1, by omega, by simp, by rw [HP.out], by rw [HN.out, ← List.append_assoc]; exact HB1.out, HG.out.trans HG1.out⟩
        case measure => simp [intOf]; omega
    · obtain rfl : k = L.length := by omega
      have hkl : ¬ (L.length : Int) < (L.length : Int) := by omega
      go_wp2
      go_ret
      exact ⟨_, rfl, by have := HB.out; rwa [← HD.out, List.take_length] at this, HG.out⟩
set_option maxHeartbeats 1000000 in
theorem Ig.runLength_c (u : Value) (L : List Int) (w : World) (hL : Ig.At w.heap.size w u L) (hne : 0 < L.length) (hl : L.length ≤ 65536) :
    Calls Tryz.prog 118 #[u] w fun e w' => ∃ k, e = .returned (.int .i64 (k : Nat)) ∧ Ig.Run L k ∧ Below w.heap.size w w' := by
  obtain ⟨a, c, rfl, hc, _, h⟩ := hL
  go_enter Tryz.func118, Tryz.ntmps118
  go_wp2
  rcases h with h | ⟨b, o, rfl, hlt, h⟩
  · exact absurd hne (by rw [h]; simp)
  go_loopw [3] (fun i wr => ∃ k : Nat, k ≤ L.length ∧ i = .int .i64 k ∧ (∀ j, j < k → nth L j = nth L 0) ∧ Below w.heap.size w wr) (fun i _ => L.length - (intOf i).toNat)
  case atStart => exact ⟨0, by omega, rfl, fun j hj => by omega, Below.refl _ _⟩
  case round =>
    obtain ⟨k, hk, rfl, hj, hB⟩ := hrel
    have HJ := Lib.hid hj
    have HB := Lib.hid hB
    have hk0 : (0 : Int) ≤ (k : Int) := by omega
    have hn0 : (0 : Int) < (L.length : Int) := by omega
    have hn : (L.length : Int) ≤ 65536 := by omega
    have h0 : wr.cell? ⟨b, o, none⟩ = some (.int .i64 (nth L 0)) := (hB.cell (p := ⟨b, o, none⟩) hlt).trans (by have := h 0 hne; simpa using this)
    clear hj
    by_cases hl2 : k < L.length
    · have hcell : wr.cell? ⟨b, o + k, none⟩ = some (.int .i64 (nth L k)) := (hB.cell (p := ⟨b, o + k, none⟩) hlt).trans (h k hl2)
      have hkl : (k : Int) < (L.length : Int) := by omega
      have HH := Lib.hid h
      clear h hB
      by_cases he : nth L k = nth L 0
      · have hq : (nth L k == nth L 0) = true := by rw [he]; exact beq_self_eq_true _
        have HE := Lib.hid he
        obtain ⟨x, ex⟩ : ∃ x, x = nth L k := ⟨_, rfl⟩
        obtain ⟨y, ey⟩ : ∃ y, y = nth L 0 := ⟨_, rfl⟩
        rw [← ex] at hcell hq
        rw [← ey] at h0 hq
        clear he ex ey
        go_wp2_with fail
        go_quiet (fail)
        go_wp2
        go_roundw
        case rel => exact ⟨k + 1, by omega, by simp, fun j hj => by
          rcases Nat.lt_or_ge j k with h | h
          · exact HJ.out j h
          · rw [show j = k by omega]; exact HE.out, HB.out.trans ((Bt.drewN_below _ _).mono HB.out.size)⟩
        case measure => simp [intOf]; omega
      · have hq : (nth L k == nth L 0) = false := by rw [beq_eq_false_iff_ne]; exact he
        have HE := Lib.hid he
        obtain ⟨x, ex⟩ : ∃ x, x = nth L k := ⟨_, rfl⟩
        obtain ⟨y, ey⟩ : ∃ y, y = nth L 0 := ⟨_, rfl⟩
        rw [← ex] at hcell hq
        rw [← ey] at h0 hq
        have hk1 : 0 < k := by
          rcases Nat.eq_zero_or_pos k with e | e
          · exact absurd (by rw [e]) he
          · exact e
        clear he ex ey
        go_wp2_with fail
        go_quiet (fail)
        go_wp2
        go_ret
        exact ⟨k, rfl, ⟨hk1, hk, HJ.out, fun _ => HE.out⟩, HB.out.trans ((Bt.drewN_below _ _).mono HB.out.size)⟩
    · obtain rfl : k = L.length := by omega
      have hd : decide ((L.length : Int) < (L.length : Int)) = false := by simp
      clear h hB
      go_wp2_with fail
      go_quiet (fail)
      go_wp2
      go_ret
      exact ⟨L.length, rfl, ⟨hne, Nat.le_refl _, HJ.out, fun h => absurd h (Nat.lt_irrefl _)⟩, HB.out.trans ((Bt.drewN_below _ _).mono HB.out.size)⟩
set_option maxHeartbeats 1000000 in
theorem Ig.min_c (u : Value) (L : List Int) (w : World) (hL : Ig.At w.heap.size w u L) (hne : 0 < L.length) (hl : L.length ≤ 65536) :
    Calls Tryz.prog 119 #[u] w fun e w' => e = .returned (.int .i64 (low L)) ∧ w' = w := by
  obtain ⟨a, c, rfl, hc, _, h⟩ := hL
  rcases h with h | ⟨b, o, rfl, hlt, h⟩
  · exact absurd hne (by rw [h]; simp)
  have h0 : w.cell? ⟨b, o, none⟩ = some (.int .i64 (nth L 0)) := by have := h 0 hne; simpa using this
  have hn0 : ¬ (L.length : Int) < 1 := by omega
  have hn1 : (0 : Int) < (L.length : Int) := by omega
  have HL1 : Hid (low (L.take 1) = nth L 0) := Lib.hid (Ig.low_one hne)
  go_enter Tryz.func119, Tryz.ntmps119
  go_wp2
  go_loop [3, 4] (fun m i => ∃ k : Nat, 1 ≤ k ∧ k ≤ L.length ∧ i = .int .i64 k ∧ m = .int .i64 (low (L.take k))) (fun _ i => L.length - (intOf i).toNat)
  case atStart => exact ⟨1, by omega, by omega, rfl, by rw [HL1.out]⟩
  case round =>
    obtain ⟨k, hk1, hk, rfl, rfl⟩ := hrel
    clear h0
    by_cases hl2 : k < L.length
    · have hcell := h k hl2
      have hkl : (k : Int) < (L.length : Int) := by omega
      have hk0 : (0 : Int) ≤ (k : Int) := by omega
      have HN := Lib.hid (Ig.low_next (by omega) hl2)
      obtain ⟨x, ex⟩ : ∃ x, x = nth L k := ⟨_, rfl⟩
      obtain ⟨y, ey⟩ : ∃ y, y = low (L.take k) := ⟨_, rfl⟩
      rw [← ex] at hcell HN
      rw [← ey] at HN ⊢
      clear h ex ey
      by_cases hxy : y ≤ x
      all_goals
        go_wp2
        all_goals
          go_round
          case rel => exact ⟨k + 1, by omega, by omega, by simp, by rw [HN.out]; congr 1; omega⟩
          case measure => simp [intOf]; omega
    · obtain rfl : k = L.length := by omega
      have hkl : ¬ (L.length : Int) < (L.length : Int) := by omega
      go_wp2
      go_ret
      exact ⟨rfl, rfl⟩
end Go.Proofs.YtcognkgabdaneaaGreatDoor

namespace Go.Proofs.YtcognkgabdaneaaGreatDoor
open Go.RowKit
open Ig (nth encI encR grp diffs prv low)
open Ty (encU)
theorem Ig.grew_below {w w1 w2 : World} {v x : Value} (h : Ty.Grew w w1 v x) (g : Below w1.heap.size w1 w2) : Ty.Grew w w2 v x :=
  h.trans ⟨⟨g.os, g.tape, g.output, g.size, fun k hk _ => g.block k hk⟩, .inl rfl⟩
theorem Ig.grew_drew {w w1 : World} {v x : Value} (h : Ty.Grew w w1 v x) : Ty.Grew w w1.drew v x := Ig.grew_below h (Bt.drewN_below _ 1)
theorem Ig.buf_drew {base : Nat} {w : World} {v : Value} {bs : List UInt8} (h : Ty.Buf base w v bs) : Ty.Buf base w.drew v bs := h
/-- What is behind the first k numbers. -/
theorem Ig.At.drop {B : Nat} {w : World} {b o c k : Nat} {M : List Int} (h : Ig.At B w (.slice (some ⟨b, o, none⟩) M.length c) M) (hk : k ≤ M.length) : Ig.At B w (.slice (if c = k then some ⟨b, o, none⟩ else some ⟨b, o + k, none⟩) (M.length - k) (c - k)) (M.drop k) := by
  obtain ⟨a, c', e, hc, hB, h⟩ := h
  simp only [Value.slice.injEq] at e
  obtain ⟨ea, _, rfl⟩ := e
  refine ⟨_, c - k, by rw [List.length_drop], by rw [List.length_drop]; omega, hB, ?_⟩
  rcases h with h | ⟨b', o', rfl, hlt, h⟩
  · left; rw [h]; simp
  · simp only [Option.some.injEq, Addr.mk.injEq, and_true] at ea
    obtain ⟨rfl, rfl⟩ := ea
    by_cases he : M.length ≤ k
    · left; exact List.drop_eq_nil_of_le he
    · right
      refine ⟨b, o + k, by rw [if_neg (by omega)], hlt, fun i hi => ?_⟩
      rw [List.length_drop] at hi
      rw [Ig.nth_drop, Nat.add_assoc]
      exact h (k + i) (by omega)
set_option maxHeartbeats 2000000 in
theorem Ig.writeRuns_c (base : Nat) (v : Value) (bs : List UInt8) (u : Value) (L : List Int) (w : World) (hw : Ty.Tabs w) (hown : Ty.Buf base w v bs) (hb : base ≤ w.heap.size) (hG : Ty.G ≤ base)
    (hL : Ig.At base w u L) (hi : ∀ x ∈ L, Ty.I64 x) (hlen : bs.length ≤ 100) (hl : L.length ≤ 65536) :
    Calls Tryz.prog 88 #[v, u] w (Ty.Written base w v (bs ++ (grp L).flatMap encR)) := by
  have hL0 := hL
  obtain ⟨a, c, rfl, hc, _, h⟩ := hL
  have H0 := Lib.hid hown.base
  clear h
  go_enter Tryz.func88, Tryz.ntmps88
  go_wp2
  go_loopw [0, 1] (fun x1 lv wr => ∃ M done, Ig.At base wr lv M ∧ (grp L).flatMap encR = done ++ (grp M).flatMap encR ∧ done.length + 18 * M.length ≤ 18 * L.length ∧ (∀ x ∈ M, Ty.I64 x) ∧ Ty.Buf base wr x1 (bs ++ done) ∧ Ty.Grew w wr v x1) (fun _ lv _ => match lv with | .slice _ n _ => n | _ => 0)
  case atStart => exact ⟨L, [], hL0, rfl, by simp, hi, by simpa using hown, Ty.Grew.refl _ _⟩
  case round =>
    obtain ⟨M, done, hM, hg, hd, hMi, hB, hGr⟩ := hrel
    have hb1 := Ig.take_full hGr hb H0.out
    have hT := hw.below hb1 hG
    have hs := hb1.size
    have HM := Lib.hid hM
    have HE := Lib.hid hg
    have HI := Lib.hid hMi
    have HB := Lib.hid hB
    have HG := Lib.hid hGr
    obtain ⟨a2, e, rfl, he, _, h⟩ := hM
    clear hg hB hGr hMi hi hL0 hown
    have hml : M.length ≤ 65536 := by omega
    by_cases h0 : 0 < M.length
    · rcases h with h | ⟨b2, o2, rfl, hlt2, h⟩
      · exact absurd h0 (by rw [h]; simp)
      · have hcell := h 0 h0
        rw [Nat.add_zero] at hcell
        have hkl : (0 : Int) < (M.length : Int) := by omega
        have cR := Ig.runLength_c _ M wr (HM.out.mono (by omega) (Nat.le_refl _)) h0 hml
        have hx := Ig.nth_i64 HI.out h0
        clear h hc
        go_wp2_with fail
        refine cR.mono ?_
        rintro e0 w1 ⟨k, rfl, hR, g1⟩
        have HR := Lib.hid hR
        have hk1 : k ≤ M.length := hR.2.1
        have hk0 : 0 < k := hR.1
        have hu : Ty.U64 ((k : Int)).toNat := by unfold Ty.U64; omega
        have hcell1 : w1.cell? ⟨b2, o2, none⟩ = some (.int .i64 (nth M 0)) := (g1.cell (p := ⟨b2, o2, none⟩) (show b2 < wr.heap.size by omega)).trans hcell
        have hs1 := g1.size
        have hT1 : Ty.Tabs w1 := hT.below g1 (by omega)
        have cU := Ty.uint_c base _ _ (k : Int) (by omega) hu w1.drew hT1.drew (Ig.buf_drew (HB.out.later g1)) (by simp; omega) (by rw [List.length_append]; omega)
        have HG1 := Lib.hid (Ig.grew_below HG.out g1)
        have hbase : ∀ j, (Value.ownBlock u0) = some j → base ≤ j := HB.out.base
        have HX : Hid (∀ wz vz, Ty.Grew w1.drew wz u0 vz → Below base w1 wz) := Lib.hid fun wz vz g => ((Bt.drewN_below w1 1).mono (by omega)).trans (g.below (by simp; omega) hbase)
        have HS : Hid (∀ wz, Below base w1 wz → wz.cell? ⟨b2, o2, none⟩ = some (.int .i64 (nth M 0))) := Lib.hid fun wz g => (g.cell (p := ⟨b2, o2, none⟩) hlt2).trans hcell1
        have HD : Hid (Below base w1 w1.drew) := Lib.hid ((Bt.drewN_below w1 1).mono (by omega))
        have CI : Hid (∀ wz vz, Ty.Buf base wz vz (bs ++ done ++ Ty.encU ((k : Int)).toNat) → Ty.Grew w1.drew wz u0 vz → Calls Tryz.prog 116 #[vz, .int .i64 (nth M 0)] wz (Ty.Written base wz vz (bs ++ done ++ Ty.encU ((k : Int)).toNat ++ Ty.encU (Ty.zig (nth M 0)).toNat))) := Lib.hid fun wz vz hB hG => by
          have hz := HX.out wz vz hG
          have h9 := Ty.encU_len9 ((k : Int)).toNat
          exact Ty.int_c base vz _ (nth M 0) hx wz (hT1.below hz (by omega)) hB (by have := hz.size; omega) (by simp only [List.length_append]; omega)
        have hwk : IntKind.u64.wrap (k : Int) = (k : Int) := by rw [IntKind.wrap_u64]; omega
        have CU : Hid (Calls Tryz.prog 19 #[u0, .int .u64 (IntKind.u64.wrap (k : Int))] w1.drew (Ty.Written base w1.drew u0 (bs ++ done ++ Ty.encU ((k : Int)).toNat))) := Lib.hid (by rw [hwk]; exact cU)
        clear hwk
        have hdr := Ig.At.drop (k := k) (HM.out.below (g1.mono (by omega))) hk1
        have HDR := Lib.hid hdr
        have HRN : Hid ((grp M).flatMap encR = (encU k ++ encI (nth M 0)) ++ (grp (M.drop k)).flatMap encR) := Lib.hid (Ig.runs_next hR)
        have HDI : Hid (∀ x ∈ M.drop k, Ty.I64 x) := Lib.hid fun x hx => HI.out x (List.mem_of_mem_drop hx)
        generalize nth M 0 = xx at *
        clear cU hR hdr cR hx hu
        go_wp2_with fail
        go_region_held3 (fun wx => wx.cell? ⟨b2, o2, none⟩ = some (.int .i64 xx))
          (first
            | exact HS.out _ HD.out
            | exact HS.out _ (HX.out _ _ (hGz.trans hGy))
            | exact HS.out _ (HX.out _ _ hGz))
          (first
            | (go_at_call 19; (with_reducible refine CU.out.mono ?_); rintro e wz ⟨vz, rfl, hBz, hGz⟩)
            | (go_at_call 116; (with_reducible refine (CI.out _ _ hBz hGz).mono ?_); rintro e wy ⟨vy, rfl, hBy, hGy⟩))
        have hyz : Below base w1 wy := HX.out _ _ (hGz.trans hGy)
        go_wp2
        refine ⟨⟨M.drop k, done ++ (encU k ++ encI xx), HDR.out.below hyz, ?_, ?_, HDI.out, ?_, ?_⟩, ?_⟩
        · rw [HE.out, HRN.out]; simp
        · have h9 := Ty.encU_len9 k
          have h10 := Ig.len_encI xx
          rw [List.length_drop, List.length_append, List.length_append]
          omega
        · have := hBy
          simpa [encI] using this
        · exact (Ig.grew_drew HG1.out).trans (hGz.trans hGy)
        · show M.length - k < M.length
          omega
    · have hM0 : M = [] := List.eq_nil_of_length_eq_zero (by omega)
      subst hM0
      clear h
      go_wp2
      go_ret
      exact ⟨_, rfl, by have := HE.out; simp only [grp, Ig.grp, List.flatMap_nil, List.append_nil] at this; rw [this]; exact HB.out, HG.out⟩
end Go.Proofs.YtcognkgabdaneaaGreatDoor
