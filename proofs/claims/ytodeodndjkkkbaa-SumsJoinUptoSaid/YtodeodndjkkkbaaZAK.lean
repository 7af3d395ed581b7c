import Derived.Test.YtodeodndjkkkbaaZAF
import Derived.Test.YtodeodndjkkkbaaZAG
import Derived.Test.YtodeodndjkkkbaaZAH
import Derived.Deep.RegionLaw
import Derived.Deep.RegionLawGrows
import Derived.Test.YtodeodndjkkkbaaZAA
import Derived.BigQuiet
import Derived.Deep.OwnRows
import Derived.Test.YtodeodndjkkkbaaZAD
import Derived.StillTailTactics
import Derived.Deep.RegionHeld3
namespace Go.Proofs.Ytodeodndjkkkbaa
section
open Go Go.RowKit
section
variable {α : Type} (key : α → Kn.V)
def Sk.at_ (L : List α) (k : Kn.V) : Nat := (L.takeWhile fun x => decide (Kn.cmp (key x) k < 0)).length
def Sk.there (L : List α) (k : Kn.V) : Bool := match L[Sk.at_ key L k]? with | none => false | some x => !decide (Kn.cmp k (key x) < 0)
def Sk.put (L : List α) (x : α) : List α := L.take (Sk.at_ key L (key x)) ++ x :: L.drop (if Sk.there key L (key x) = true then Sk.at_ key L (key x) + 1 else Sk.at_ key L (key x))
def Sk.get (L : List α) (k : Kn.V) : Option α := if Sk.there key L k = true then L[Sk.at_ key L k]? else none
def Sk.from_ (L : List α) (k : Kn.V) : List α := L.drop (Sk.at_ key L k)
def Sk.Asc (L : List α) : Prop := L.Pairwise fun x y => Kn.cmp (key x) (key y) < 0
end
theorem Sk.cmp_self (a : Kn.V) : Kn.cmp a a = 0 := by have := (Kn.cmp_fair a a a).xa; omega
theorem Sk.cmp_anti (a b : Kn.V) : Kn.cmp b a = -Kn.cmp a b := (Kn.cmp_fair a b b).xa
theorem Sk.lt_trans {a b c : Kn.V} (h : Kn.cmp a b < 0) (g : Kn.cmp b c < 0) : Kn.cmp a c < 0 := by
 have f := Kn.cmp_fair a b c
 have h1 := f.le (by omega) (by omega)
 have h2 := f.lt (by omega) (by omega)
 by_cases e : Kn.cmp a c = 0
 ·have := h2 e; omega
 ·omega
theorem Sk.eq_left {a b c : Kn.V} (h : Kn.cmp a b = 0) : Kn.cmp a c = Kn.cmp b c := by
 have f := Kn.cmp_fair a b c
 have g := Kn.cmp_fair b a c
 have ha := Sk.cmp_anti a b
 have h1 := f.xr
 have h2 := f.yr
 have h3 := f.zr
 have h4 := f.le
 have h5 := f.lt
 have h6 := f.ge
 have h7 := f.gt
 have g4 := g.le
 have g5 := g.lt
 have g6 := g.ge
 have g7 := g.gt
 omega
theorem Sk.eq_right {a b c : Kn.V} (h : Kn.cmp b c = 0) : Kn.cmp a b = Kn.cmp a c := by
 have := Sk.eq_left (a := b) (b := c) (c := a) h
 have h1 := Sk.cmp_anti b a
 have h2 := Sk.cmp_anti c a
 omega
section
variable {α : Type} {key : α → Kn.V}
theorem Sk.at_le (L : List α) (k : Kn.V) : Sk.at_ key L k ≤ L.length := by
 unfold Sk.at_
 exact (List.takeWhile_prefix _).length_le
theorem Sk.at_nil (k : Kn.V) : Sk.at_ key [] k = 0 := rfl
theorem Sk.at_cons (x : α) (L : List α) (k : Kn.V) : Sk.at_ key (x :: L) k = if Kn.cmp (key x) k < 0 then Sk.at_ key L k + 1 else 0 := by
 unfold Sk.at_
 by_cases h : Kn.cmp (key x) k < 0
 ·rw [if_pos h, List.takeWhile_cons_of_pos (by simpa using h), List.length_cons]
 ·rw [if_neg h, List.takeWhile_cons_of_neg (by simpa using h), List.length_nil]
theorem Sk.at_lt {L : List α} {k : Kn.V} : ∀ {i : Nat} {x : α}, i < Sk.at_ key L k → L[i]? = some x → Kn.cmp (key x) k < 0 := by
 induction L with
 | nil => intro i x h; simp [Sk.at_nil] at h
 | cons y L ih =>
   intro i x h hx
   rw [Sk.at_cons] at h
   by_cases hy : Kn.cmp (key y) k < 0
   ·rw [if_pos hy] at h
    cases i with
    | zero => obtain rfl : y = x := by simpa using hx
              exact hy
    | succ i => exact ih (i := i) (by omega) (by simpa using hx)
   ·rw [if_neg hy] at h; omega
theorem Sk.at_ge {L : List α} {k : Kn.V} {x : α} (hx : L[Sk.at_ key L k]? = some x) : ¬ Kn.cmp (key x) k < 0 := by
 induction L with
 | nil => simp at hx
 | cons y L ih =>
   rw [Sk.at_cons] at hx
   by_cases hy : Kn.cmp (key y) k < 0
   ·rw [if_pos hy] at hx
    exact ih (by simpa using hx)
   ·rw [if_neg hy] at hx
    obtain rfl : y = x := by simpa using hx
    exact hy
theorem Sk.at_is {L : List α} {k : Kn.V} {i : Nat} (hi : i ≤ L.length) (h : ∀ j x, j < i → L[j]? = some x → Kn.cmp (key x) k < 0) (hg : ∀ x, L[i]? = some x → ¬ Kn.cmp (key x) k < 0) : Sk.at_ key L k = i := by
 rcases Nat.lt_trichotomy (Sk.at_ key L k) i with h1 | h1 | h1
 ·have hx : L[Sk.at_ key L k]? = some (L[Sk.at_ key L k]'(by omega)) := List.getElem?_eq_getElem _
  exact absurd (h _ _ h1 hx) (Sk.at_ge hx)
 ·exact h1
 ·have := Sk.at_le (key := key) L k
  have hx : L[i]? = some (L[i]'(by omega)) := List.getElem?_eq_getElem _
  exact absurd (Sk.at_lt h1 hx) (hg _ hx)
theorem Sk.there_some {L : List α} {k : Kn.V} (h : Sk.there key L k = true) : ∃ x, L[Sk.at_ key L k]? = some x ∧ Kn.cmp (key x) k = 0 := by
 unfold Sk.there at h
 cases hx : L[Sk.at_ key L k]? with
 | none => rw [hx] at h; cases h
 | some x =>
   rw [hx] at h
   have h1 := Sk.at_ge hx
   have h2 := Sk.cmp_anti k (key x)
   refine ⟨x, rfl, ?_⟩
   simp only [Bool.not_eq_true', decide_eq_false_iff_not] at h
   omega
theorem Sk.there_none {L : List α} {k : Kn.V} (h : Sk.there key L k = false) : ∀ x, L[Sk.at_ key L k]? = some x → 0 < Kn.cmp (key x) k := by
 intro x hx
 unfold Sk.there at h
 rw [hx] at h
 have h2 := Sk.cmp_anti k (key x)
 simp only [Bool.not_eq_false', decide_eq_true_eq] at h
 omega
theorem Sk.asc_behind {L : List α} (ha : Sk.Asc key L) {i j : Nat} {x y : α} (hij : i < j) (hx : L[i]? = some x) (hy : L[j]? = some y) : Kn.cmp (key x) (key y) < 0 := by
 have hj : j < L.length := (List.getElem?_eq_some_iff.1 hy).1
 obtain ⟨h1, rfl⟩ := List.getElem?_eq_some_iff.1 hx
 obtain ⟨h2, rfl⟩ := List.getElem?_eq_some_iff.1 hy
 exact List.pairwise_iff_getElem.1 ha i j h1 h2 hij
theorem Sk.get_mem {L : List α} (ha : Sk.Asc key L) {k : Kn.V} {x : α} : Sk.get key L k = some x ↔ x ∈ L ∧ Kn.cmp (key x) k = 0 := by
 constructor
 ·intro h
  unfold Sk.get at h
  split at h
  ·next ht =>
   obtain ⟨y, hy, he⟩ := Sk.there_some ht
   rw [hy] at h
   obtain rfl : y = x := by simpa using h
   exact ⟨List.mem_of_getElem? hy, he⟩
  ·cases h
 ·rintro ⟨hm, he⟩
  obtain ⟨i, hi, e⟩ := List.getElem_of_mem hm
  have hx : L[i]? = some x := by rw [List.getElem?_eq_getElem hi, e]
  have hat : Sk.at_ key L k = i := Sk.at_is (Nat.le_of_lt hi) (fun j y hj hy => by
   have := Sk.asc_behind ha hj hy hx
   rw [Sk.eq_right he] at this
   exact this) (fun y hy => by
   rw [hx] at hy
   obtain rfl : x = y := by simpa using hy
   omega)
  have ht : Sk.there key L k = true := by
   unfold Sk.there
   rw [hat, hx]
   have := Sk.cmp_anti k (key x)
   simp only [Bool.not_eq_true', decide_eq_false_iff_not]
   omega
  unfold Sk.get
  rw [if_pos ht, hat, hx]
theorem Sk.get_none {L : List α} (ha : Sk.Asc key L) {k : Kn.V} : Sk.get key L k = none ↔ ∀ x ∈ L, Kn.cmp (key x) k ≠ 0 := by
 constructor
 ·intro h x hx he
  have := (Sk.get_mem ha).2 ⟨hx, he⟩
  rw [h] at this
  cases this
 ·intro h
  cases hg : Sk.get key L k with
  | none => rfl
  | some x =>
    obtain ⟨h1, h2⟩ := (Sk.get_mem ha).1 hg
    exact absurd h2 (h x h1)
theorem Sk.mem_put {L : List α} (ha : Sk.Asc key L) {x y : α} : y ∈ Sk.put key L x ↔ y = x ∨ (y ∈ L ∧ Kn.cmp (key y) (key x) ≠ 0) := by
 unfold Sk.put
 rw [List.mem_append, List.mem_cons]
 have htk : y ∈ L.take (Sk.at_ key L (key x)) → y ∈ L ∧ Kn.cmp (key y) (key x) ≠ 0 := fun h => by
  obtain ⟨i, hi, e⟩ := List.getElem_of_mem h
  rw [List.length_take] at hi
  have hy : L[i]? = some y := by
   rw [List.getElem_take] at e
   rw [List.getElem?_eq_getElem (by omega), e]
  have := Sk.at_lt (key := key) (k := key x) (by omega) hy
  exact ⟨List.mem_of_mem_take h, by omega⟩
 constructor
 ·rintro (h | h | h)
  ·exact .inr (htk h)
  ·exact .inl h
  ·refine .inr ⟨List.mem_of_mem_drop h, ?_⟩
   obtain ⟨i, hi, e⟩ := List.getElem_of_mem h
   rw [List.length_drop] at hi
   rw [List.getElem_drop] at e
   have hy : L[(if Sk.there key L (key x) = true then Sk.at_ key L (key x) + 1 else Sk.at_ key L (key x)) + i]? = some y := by
    rw [List.getElem?_eq_getElem (by omega), e]
   by_cases ht : Sk.there key L (key x) = true
   ·rw [if_pos ht] at hy
    obtain ⟨z, hz, he⟩ := Sk.there_some ht
    have := Sk.asc_behind ha (i := Sk.at_ key L (key x)) (j := Sk.at_ key L (key x) + 1 + i) (by omega) hz hy
    rw [Sk.eq_left he] at this
    have h2 := Sk.cmp_anti (key x) (key y)
    omega
   ·rw [if_neg ht] at hy
    have ht' : Sk.there key L (key x) = false := by simpa using ht
    cases i with
    | zero => have := Sk.there_none ht' y (by simpa using hy); omega
    | succ i =>
      have hlt : Sk.at_ key L (key x) < L.length := by
       have := (List.getElem?_eq_some_iff.1 hy).1
       omega
      have hz : L[Sk.at_ key L (key x)]? = some L[Sk.at_ key L (key x)] := List.getElem?_eq_getElem hlt
      have h1 := Sk.there_none ht' _ hz
      have h2 := Sk.asc_behind ha (i := Sk.at_ key L (key x)) (j := Sk.at_ key L (key x) + (i + 1)) (by omega) hz hy
      have h3 := Sk.cmp_anti (key x) (key y)
      have h4 := Sk.cmp_anti (key x) (key L[Sk.at_ key L (key x)])
      have h5 := Sk.lt_trans (a := key x) (by omega) h2
      omega
 ·rintro (h | ⟨h, hne⟩)
  ·exact .inr (.inl h)
  ·obtain ⟨i, hi, e⟩ := List.getElem_of_mem h
   have hy : L[i]? = some y := by rw [List.getElem?_eq_getElem hi, e]
   rcases Nat.lt_or_ge i (Sk.at_ key L (key x)) with h1 | h1
   ·refine .inl (List.mem_of_getElem? (i := i) ?_)
    rw [List.getElem?_take, if_pos h1, hy]
   ·refine .inr (.inr ?_)
    by_cases ht : Sk.there key L (key x) = true
    ·rw [if_pos ht]
     obtain ⟨z, hz, he⟩ := Sk.there_some ht
     rcases Nat.lt_or_ge (Sk.at_ key L (key x)) i with h2 | h2
     ·refine List.mem_of_getElem? (i := i - (Sk.at_ key L (key x) + 1)) ?_
      rw [List.getElem?_drop, show Sk.at_ key L (key x) + 1 + (i - (Sk.at_ key L (key x) + 1)) = i by omega, hy]
     ·have : i = Sk.at_ key L (key x) := by omega
      rw [← this, hy] at hz
      obtain rfl : y = z := by simpa using hz
      exact absurd he hne
    ·rw [if_neg ht]
     refine List.mem_of_getElem? (i := i - Sk.at_ key L (key x)) ?_
     rw [List.getElem?_drop, show Sk.at_ key L (key x) + (i - Sk.at_ key L (key x)) = i by omega, hy]
theorem Sk.put_asc {L : List α} (ha : Sk.Asc key L) (x : α) : Sk.Asc key (Sk.put key L x) := by
 have hsub : ∀ y, y ∈ L.drop (if Sk.there key L (key x) = true then Sk.at_ key L (key x) + 1 else Sk.at_ key L (key x)) → Kn.cmp (key x) (key y) < 0 := fun y hy => by
  obtain ⟨i, hi, e⟩ := List.getElem_of_mem hy
  rw [List.length_drop] at hi
  rw [List.getElem_drop] at e
  have hy : L[(if Sk.there key L (key x) = true then Sk.at_ key L (key x) + 1 else Sk.at_ key L (key x)) + i]? = some y := by
   rw [List.getElem?_eq_getElem (by omega), e]
  by_cases ht : Sk.there key L (key x) = true
  ·rw [if_pos ht] at hy
   obtain ⟨z, hz, he⟩ := Sk.there_some ht
   have := Sk.asc_behind ha (i := Sk.at_ key L (key x)) (j := Sk.at_ key L (key x) + 1 + i) (by omega) hz hy
   rwa [Sk.eq_left he] at this
  ·rw [if_neg ht] at hy
   have ht' : Sk.there key L (key x) = false := by simpa using ht
   have hlt : Sk.at_ key L (key x) < L.length := by
    have := (List.getElem?_eq_some_iff.1 hy).1
    omega
   have hz : L[Sk.at_ key L (key x)]? = some L[Sk.at_ key L (key x)] := List.getElem?_eq_getElem hlt
   have h1 := Sk.there_none ht' _ hz
   have h4 := Sk.cmp_anti (key x) (key L[Sk.at_ key L (key x)])
   cases i with
   | zero =>
     rw [Nat.add_zero, hz] at hy
     obtain rfl : L[Sk.at_ key L (key x)] = y := by simpa using hy
     omega
   | succ i => exact Sk.lt_trans (a := key x) (by omega) (Sk.asc_behind ha (i := Sk.at_ key L (key x)) (j := Sk.at_ key L (key x) + (i + 1)) (by omega) hz hy)
 have htk : ∀ y, y ∈ L.take (Sk.at_ key L (key x)) → Kn.cmp (key y) (key x) < 0 := fun y h => by
  obtain ⟨i, hi, e⟩ := List.getElem_of_mem h
  rw [List.length_take] at hi
  rw [List.getElem_take] at e
  exact Sk.at_lt (key := key) (k := key x) (L := L) (i := i) (by omega) (by rw [List.getElem?_eq_getElem (by omega), e])
 unfold Sk.put Sk.Asc
 rw [List.pairwise_append, List.pairwise_cons]
 refine ⟨List.Pairwise.sublist (List.take_sublist _ _) ha, ⟨hsub, List.Pairwise.sublist (List.drop_sublist _ _) ha⟩, fun y hy z hz => ?_⟩
 rcases List.mem_cons.1 hz with rfl | hz
 ·exact htk y hy
 ·exact Sk.lt_trans (htk y hy) (hsub z hz)
theorem Sk.get_put {L : List α} (ha : Sk.Asc key L) (x : α) (k : Kn.V) : Sk.get key (Sk.put key L x) k = if Kn.cmp (key x) k = 0 then some x else Sk.get key L k := by
 have hp := Sk.put_asc ha x
 by_cases h : Kn.cmp (key x) k = 0
 ·rw [if_pos h]
  exact (Sk.get_mem hp).2 ⟨(Sk.mem_put ha).2 (.inl rfl), h⟩
 ·rw [if_neg h]
  cases hg : Sk.get key L k with
  | none =>
    rw [Sk.get_none hp]
    intro y hy
    rcases (Sk.mem_put ha).1 hy with rfl | ⟨hy, _⟩
    ·exact h
    ·exact (Sk.get_none ha).1 hg y hy
  | some y =>
    obtain ⟨hy, he⟩ := (Sk.get_mem ha).1 hg
    refine (Sk.get_mem hp).2 ⟨(Sk.mem_put ha).2 (.inr ⟨hy, fun e => h ?_⟩), he⟩
    rw [← he, Sk.eq_left e]
theorem Sk.asc_ext : ∀ {L M : List α}, Sk.Asc key L → Sk.Asc key M → (∀ y, y ∈ L ↔ y ∈ M) → L = M
 | [], [], _, _, _ => rfl
 | [], y :: M, _, _, h => absurd ((h y).2 List.mem_cons_self) (by simp)
 | x :: L, [], _, _, h => absurd ((h x).1 List.mem_cons_self) (by simp)
 | x :: L, y :: M, ha, hb, h => by
   unfold Sk.Asc at ha hb
   rw [List.pairwise_cons] at ha hb
   have hxy : x = y := by
    rcases List.mem_cons.1 ((h x).1 List.mem_cons_self) with e | hx
    ·exact e
    ·rcases List.mem_cons.1 ((h y).2 List.mem_cons_self) with e | hy
     ·exact e.symm
     ·have h1 := ha.1 y hy
      have h2 := hb.1 x hx
      have h3 := Sk.cmp_anti (key x) (key y)
      omega
   subst hxy
   congr 1
   refine Sk.asc_ext ha.2 hb.2 fun z => ?_
   constructor
   ·intro hz
    rcases List.mem_cons.1 ((h z).1 (List.mem_cons_of_mem _ hz)) with e | hz'
    ·have := ha.1 z hz
     rw [e, Sk.cmp_self] at this
     omega
    ·exact hz'
   ·intro hz
    rcases List.mem_cons.1 ((h z).2 (List.mem_cons_of_mem _ hz)) with e | hz'
    ·have := hb.1 z hz
     rw [e, Sk.cmp_self] at this
     omega
    ·exact hz'
end
end
section
open Go
def Mg.puts (M l : List Dd.D) : List Dd.D := l.foldl (Sk.put Bk.key) M
def Mg.nw : List (List Dd.D) → List Dd.D
 | [] => []
 | l :: LL => Mg.puts (Mg.nw LL) l
def Mg.all (LL : List (List Dd.D)) : Bool := LL.all Bk.sorted
def Mg.live (L : List Dd.D) : List Dd.D := L.filter fun d => !d.gone
def Mg.res (LL : List (List Dd.D)) : List Dd.D := if Mg.all LL = true then Mg.nw LL else []
def Mg.err (LL : List (List Dd.D)) : Int := if Mg.all LL = true then 0 else 1
theorem Mg.asc_of {L : List Dd.D} (h : Bk.sorted L = true) : ∀ (j i : Nat), i < j → j < L.length → Kn.cmp (Bk.key (L.getD i Bk.nod)) (Bk.key (L.getD j Bk.nod)) < 0
 | 0, _, h, _ => by omega
 | j + 1, i, hij, hj => by
   unfold Bk.sorted at h
   have hs := List.all_eq_true.1 h (j + 1) (List.mem_range.2 hj)
   unfold Bk.step at hs
   rw [Bool.and_eq_true, Bool.or_eq_true] at hs
   have h1 : Kn.cmp (Bk.key (L.getD j Bk.nod)) (Bk.key (L.getD (j + 1) Bk.nod)) < 0 := by
    rcases hs.2 with h2 | h2
    ·rw [beq_iff_eq] at h2; omega
    ·simpa using h2
   rcases Nat.lt_or_ge i j with h2 | h2
   ·exact Sk.lt_trans (Mg.asc_of (by unfold Bk.sorted; exact h) j i h2 (by omega)) h1
   ·obtain rfl : i = j := by omega
    exact h1
theorem Mg.getD_of {L : List Dd.D} {i : Nat} {x : Dd.D} (h : L[i]? = some x) : L.getD i Bk.nod = x := by rw [List.getD_eq_getElem?_getD, h]; rfl
theorem Mg.sorted_iff {L : List Dd.D} : Bk.sorted L = true ↔ (∀ d ∈ L, d.row ≠ []) ∧ Sk.Asc Bk.key L := by
 constructor
 ·intro h
  refine ⟨fun d hd he => ?_, ?_⟩
  ·obtain ⟨i, hi, e⟩ := List.getElem_of_mem hd
   have hx : L[i]? = some d := by rw [List.getElem?_eq_getElem hi, e]
   unfold Bk.sorted at h
   have hs := List.all_eq_true.1 h i (List.mem_range.2 hi)
   unfold Bk.step at hs
   rw [Mg.getD_of hx, he] at hs
   cases hs
  ·unfold Sk.Asc
   rw [List.pairwise_iff_getElem]
   intro i j hi hj hij
   have := Mg.asc_of h j i hij hj
   rwa [Mg.getD_of (List.getElem?_eq_getElem hi), Mg.getD_of (List.getElem?_eq_getElem hj)] at this
 ·rintro ⟨hr, ha⟩
  unfold Bk.sorted
  rw [List.all_eq_true]
  intro j hj
  have hj := List.mem_range.1 hj
  have hx : L[j]? = some L[j] := List.getElem?_eq_getElem hj
  unfold Bk.step
  rw [Mg.getD_of hx, Bool.and_eq_true]
  refine ⟨?_, ?_⟩
  ·have := hr L[j] (List.getElem_mem hj)
   cases e : L[j].row with
   | nil => exact absurd e this
   | cons _ _ => rfl
  ·cases j with
   | zero => rfl
   | succ j =>
     have hy : L[j]? = some (L[j]'(by omega)) := List.getElem?_eq_getElem _
     have := Sk.asc_behind ha (Nat.lt_succ_self j) hy hx
     rw [Nat.add_sub_cancel, Mg.getD_of hy]
     simp [this]
theorem Mg.puts_asc : ∀ (l : List Dd.D) {M : List Dd.D}, Sk.Asc Bk.key M → Sk.Asc Bk.key (Mg.puts M l)
 | [], _, h => h
 | x :: l, _, h => Mg.puts_asc l (Sk.put_asc h x)
theorem Mg.nw_asc : ∀ LL : List (List Dd.D), Sk.Asc Bk.key (Mg.nw LL)
 | [] => List.Pairwise.nil
 | l :: LL => Mg.puts_asc l (Mg.nw_asc LL)
theorem Mg.get_nil (k : Kn.V) : Sk.get Bk.key ([] : List Dd.D) k = none := rfl
theorem Mg.get_puts (k : Kn.V) : ∀ {l M : List Dd.D}, Sk.Asc Bk.key M → Sk.Asc Bk.key l → Sk.get Bk.key (Mg.puts M l) k = (Sk.get Bk.key l k).or (Sk.get Bk.key M k)
 | [], M, _, _ => by rw [Mg.get_nil]; rfl
 | x :: l, M, hM, hl => by
   have hl' : Sk.Asc Bk.key l := (List.pairwise_cons.1 hl).2
   have ih := Mg.get_puts k (Sk.put_asc hM x) hl'
   show Sk.get Bk.key (Mg.puts (Sk.put Bk.key M x) l) k = _
   rw [ih, Sk.get_put hM]
   by_cases h : Kn.cmp (Bk.key x) k = 0
   ·have h1 : Sk.get Bk.key (x :: l) k = some x := (Sk.get_mem hl).2 ⟨List.mem_cons_self, h⟩
    have h2 : Sk.get Bk.key l k = none := (Sk.get_none hl').2 fun y hy he => by
     have := (List.pairwise_cons.1 hl).1 y hy
     rw [Sk.eq_right he] at this
     omega
    rw [h1, h2, if_pos h]
    rfl
   ·rw [if_neg h]
    have h1 : Sk.get Bk.key (x :: l) k = Sk.get Bk.key l k := by
     cases hg : Sk.get Bk.key l k with
     | none =>
       rw [Sk.get_none hl]
       intro y hy
       rcases List.mem_cons.1 hy with rfl | hy
       ·exact h
       ·exact (Sk.get_none hl').1 hg y hy
     | some y =>
       obtain ⟨hy, he⟩ := (Sk.get_mem hl').1 hg
       exact (Sk.get_mem hl).2 ⟨List.mem_cons_of_mem _ hy, he⟩
    rw [h1]
def Mg.gg : List (List Dd.D) → Kn.V → Option Dd.D
 | [], _ => none
 | l :: LL, k => (Sk.get Bk.key l k).or (Mg.gg LL k)
theorem Mg.all_cons {l : List Dd.D} {LL : List (List Dd.D)} (h : Mg.all (l :: LL) = true) : Bk.sorted l = true ∧ Mg.all LL = true := by
 unfold Mg.all at h ⊢
 simpa using h
theorem Mg.get_nw (k : Kn.V) : ∀ {LL : List (List Dd.D)}, Mg.all LL = true → Sk.get Bk.key (Mg.nw LL) k = Mg.gg LL k
 | [], _ => rfl
 | l :: LL, h => by
   obtain ⟨h1, h2⟩ := Mg.all_cons h
   show Sk.get Bk.key (Mg.puts (Mg.nw LL) l) k = _
   rw [Mg.get_puts k (Mg.nw_asc LL) (Mg.sorted_iff.1 h1).2, Mg.get_nw k h2]
   rfl
theorem Mg.mem_iff {L : List Dd.D} (h : Sk.Asc Bk.key L) (y : Dd.D) : y ∈ L ↔ Sk.get Bk.key L (Bk.key y) = some y :=
 ⟨fun hy => (Sk.get_mem h).2 ⟨hy, Sk.cmp_self _⟩, fun hg => ((Sk.get_mem h).1 hg).1⟩
theorem Mg.ext {L M : List Dd.D} (h : Sk.Asc Bk.key L) (g : Sk.Asc Bk.key M) (e : ∀ k, Sk.get Bk.key L k = Sk.get Bk.key M k) : L = M :=
 Sk.asc_ext h g fun y => by rw [Mg.mem_iff h, Mg.mem_iff g, e]
theorem Mg.gg_append (k : Kn.V) : ∀ A B : List (List Dd.D), Mg.gg (A ++ B) k = (Mg.gg A k).or (Mg.gg B k)
 | [], B => rfl
 | l :: A, B => by
   show (Sk.get Bk.key l k).or (Mg.gg (A ++ B) k) = ((Sk.get Bk.key l k).or (Mg.gg A k)).or (Mg.gg B k)
   rw [Mg.gg_append k A B, Option.or_assoc]
theorem Mg.all_append (A B : List (List Dd.D)) : Mg.all (A ++ B) = (Mg.all A && Mg.all B) := by unfold Mg.all; exact List.all_append
theorem Mg.mem_live {l : List Dd.D} {y : Dd.D} : y ∈ Mg.live l ↔ y ∈ l ∧ y.gone = false := by unfold Mg.live; rw [List.mem_filter]; simp
theorem Mg.live_asc {l : List Dd.D} (h : Sk.Asc Bk.key l) : Sk.Asc Bk.key (Mg.live l) := List.Pairwise.sublist List.filter_sublist h
theorem Mg.live_sorted {l : List Dd.D} (h : Bk.sorted l = true) : Bk.sorted (Mg.live l) = true :=
 Mg.sorted_iff.2 ⟨fun d hd => (Mg.sorted_iff.1 h).1 d (Mg.mem_live.1 hd).1, Mg.live_asc (Mg.sorted_iff.1 h).2⟩
theorem Mg.gone {A : List (List Dd.D)} {l : List Dd.D} (h : Mg.all (A ++ [l]) = true) : Mg.all (A ++ [Mg.live l]) = true ∧ Mg.live (Mg.nw (A ++ [Mg.live l])) = Mg.live (Mg.nw (A ++ [l])) := by
 have h0 := h
 rw [Mg.all_append, Bool.and_eq_true] at h
 have hl : Bk.sorted l = true := (Mg.all_cons h.2).1
 have h2 : Mg.all (A ++ [Mg.live l]) = true := by
  rw [Mg.all_append, h.1]
  unfold Mg.all
  simp [Mg.live_sorted hl]
 refine ⟨h2, Sk.asc_ext (key := Bk.key) (Mg.live_asc (Mg.nw_asc _)) (Mg.live_asc (Mg.nw_asc _)) fun y => ?_⟩
 rw [Mg.mem_live, Mg.mem_live]
 refine and_congr_left fun hg => ?_
 rw [Mg.mem_iff (Mg.nw_asc _), Mg.mem_iff (Mg.nw_asc _), Mg.get_nw _ h2, Mg.get_nw _ h0, Mg.gg_append, Mg.gg_append]
 show (Mg.gg A (Bk.key y)).or ((Sk.get Bk.key (Mg.live l) (Bk.key y)).or none) = some y ↔ (Mg.gg A (Bk.key y)).or ((Sk.get Bk.key l (Bk.key y)).or none) = some y
 cases Mg.gg A (Bk.key y) with
 | some z => simp
 | none =>
   simp only [Option.none_or, Option.or_none]
   rw [← Mg.mem_iff (Mg.live_asc (Mg.sorted_iff.1 hl).2), ← Mg.mem_iff (Mg.sorted_iff.1 hl).2, Mg.mem_live]
   exact ⟨fun h => h.1, fun h => ⟨h, hg⟩⟩
theorem Mg.one {l : List Dd.D} (h : Bk.sorted l = true) : Mg.nw [l] = l := by
 have ha : Mg.all [l] = true := by unfold Mg.all; simp [h]
 refine Mg.ext (Mg.nw_asc _) (Mg.sorted_iff.1 h).2 fun k => ?_
 rw [Mg.get_nw k ha]
 show (Sk.get Bk.key l k).or none = _
 rw [Option.or_none]
theorem Mg.two {l : List Dd.D} (h : Bk.sorted l = true) : Mg.nw [l, l] = l := by
 have ha : Mg.all [l, l] = true := by unfold Mg.all; simp [h]
 refine Mg.ext (Mg.nw_asc _) (Mg.sorted_iff.1 h).2 fun k => ?_
 rw [Mg.get_nw k ha]
 show (Sk.get Bk.key l k).or ((Sk.get Bk.key l k).or none) = _
 cases Sk.get Bk.key l k <;> rfl
theorem Mg.ahead {l : List Dd.D} (h : Bk.sorted l = true) : Mg.nw [[], l] = l := Mg.one h
def Mg.has (L : List Dd.D) (k : Kn.V) : Bool := L.any fun d => Kn.cmp (Bk.key d) k == 0
end
section
open Go.RowKit
structure Mg.Ls (w : World) (v : Value) (LL : List (List Dd.D)) : Prop where
 is : ∃ a c, v = .slice a LL.length c ∧ LL.length ≤ c ∧ c ≤ 9223372036854775807 ∧ (LL = [] ∨ ∃ b o, a = some ⟨b, o, none⟩ ∧ b < w.heap.size ∧
  ∀ i L, LL[i]? = some L → ∃ u, w.cell? ⟨b, o + i, none⟩ = some u ∧ Bk.Ds w u L)
theorem Mg.Ls.later {w w' : World} {v : Value} {LL : List (List Dd.D)} (h : Mg.Ls w v LL) (g : Below w.heap.size w w') : Mg.Ls w' v LL := by
 obtain ⟨a, c, hv, h1, h2, h⟩ := h
 refine ⟨a, c, hv, h1, h2, ?_⟩
 rcases h with h | ⟨b, o, ha, hb, h⟩
 ·exact .inl h
 ·refine .inr ⟨b, o, ha, Nat.lt_of_lt_of_le hb g.size, fun i L hx => ?_⟩
  obtain ⟨u, c0, hu⟩ := h i L hx
  exact ⟨u, (g.cell (p := ⟨b, o + i, none⟩) hb).trans c0, hu.later g⟩
structure Mg.Lr (w : World) (v : Value) (LL : List (List Dd.D)) (R : Nat → Option Addr × Nat × Nat) : Prop where
 is : ∃ a c, v = .slice a LL.length c ∧ LL.length ≤ c ∧ c ≤ 9223372036854775807 ∧ (LL = [] ∨ ∃ b o, a = some ⟨b, o, none⟩ ∧ b < w.heap.size ∧
  ∀ i L, LL[i]? = some L → w.cell? ⟨b, o + i, none⟩ = some (Bk.sv (R i)))
end
section
open Go
def Mg.part (m : Nat) (L : List Dd.D) (j : Nat) : List Dd.D := (L.drop (m * j)).take m
def Mg.cut (m : Nat) (L : List Dd.D) : List (List Dd.D) := (List.range ((L.length + m - 1) / m)).map (Mg.part m L)
def Mg.step (n : Int) (len : Nat) : Nat := if n < 1 then max 1 len else n.toNat
end
section
open Go.RowKit
abbrev Mg.Y := Bool × (Option Addr × Nat × Nat)
def Mg.Rd (w0 : World) (Es : List Mg.Y) (L : List Dd.D) : Prop := Es.length = L.length ∧ ∀ (i : Nat) (x : Dd.D), L[i]? = some x → ∃ y, Es[i]? = some y ∧ y.1 = x.gone ∧ Kn.Vals w0 (Bk.sv y.2) x.row
theorem Mg.Rd.snoc {w0 : World} {Es : List Mg.Y} {L : List Dd.D} (h : Mg.Rd w0 Es L) {y : Mg.Y} {d : Dd.D} (h1 : y.1 = d.gone) (h2 : Kn.Vals w0 (Bk.sv y.2) d.row) : Mg.Rd w0 (Es ++ [y]) (L ++ [d]) := by
 refine ⟨by rw [List.length_append, List.length_append, h.1]; rfl, fun i x hx => ?_⟩
 rcases Nat.lt_or_ge i L.length with hi | hi
 ·rw [List.getElem?_append_left hi] at hx
  obtain ⟨z, e1, e2⟩ := h.2 i x hx
  exact ⟨z, by rw [List.getElem?_append_left (by rw [h.1]; exact hi)]; exact e1, e2⟩
 ·rw [List.getElem?_append_right hi] at hx
  cases hq : i - L.length with
  | zero =>
    rw [hq] at hx
    obtain rfl : d = x := by simpa using hx
    refine ⟨y, ?_, h1, h2⟩
    rw [List.getElem?_append_right (by rw [h.1]; exact hi), h.1, hq]
    rfl
  | succ q => rw [hq] at hx; simp at hx
theorem Mg.Rd.one {w0 : World} {y : Mg.Y} {d : Dd.D} (h1 : y.1 = d.gone) (h2 : Kn.Vals w0 (Bk.sv y.2) d.row) : Mg.Rd w0 [y] [d] := Mg.Rd.snoc (Es := []) (L := []) ⟨rfl, fun i x hx => by simp at hx⟩ h1 h2
theorem Mg.own_mono {α : Type} {e : TypeId} {k : Nat} {enc : α → List Value} {base base' : Nat} {w : World} {v : Value} {L : List α} (h : Dk.Own e k enc base w v L) (hb : base' ≤ base) : Dk.Own e k enc base' w v L := by
 refine ⟨h.1, ?_⟩
 rcases h.2 with hn | ⟨b, cap, cur, e, hbb, rest⟩
 ·exact .inl hn
 ·exact .inr ⟨b, cap, cur, e, Nat.le_trans hb hbb, rest⟩
end
section
open Go.RowKit
structure Sk.Off (S : Nat → Prop) (w w' : World) : Prop where
 os : w'.os = w.os
 tape : w'.tape = w.tape
 output : w'.output = w.output
 size : w.heap.size ≤ w'.heap.size
 block : ∀ k, k < w.heap.size → ¬ S k → w'.heap[k]? = w.heap[k]?
def Sk.More (S : Nat → Prop) (w w' : World) (b : Nat) : Prop := S b ∨ (w.heap.size ≤ b ∧ b < w'.heap.size)
theorem Sk.Off.refl (S : Nat → Prop) (w : World) : Sk.Off S w w := ⟨rfl, rfl, rfl, Nat.le_refl _, fun _ _ _ => rfl⟩
theorem Sk.Off.below {S : Nat → Prop} {w w' : World} (h : Sk.Off S w w') {B : Nat} (hB : B ≤ w.heap.size) (hS : ∀ b, S b → B ≤ b) : Below B w w' :=
 ⟨h.os, h.tape, h.output, h.size, fun k hk => h.block k (by omega) (fun hs => by have := hS k hs; omega)⟩
theorem Sk.Off.same {S : Nat → Prop} {w w1 w2 : World} (h : Sk.Off S w w1) (g : Sk.Off S w1 w2) : Sk.Off S w w2 :=
 ⟨g.os.trans h.os, g.tape.trans h.tape, g.output.trans h.output, Nat.le_trans h.size g.size, fun k hk hn => (g.block k (Nat.lt_of_lt_of_le hk h.size) hn).trans (h.block k hk hn)⟩
def Sk.Row (B : Nat) (w : World) (v : Value) (l : List Kn.V) : Prop := ∃ a c, v = .slice a l.length c ∧ l.length ≤ 9223372036854775807 ∧ (∀ x ∈ l, Kn.Z x) ∧ (l = [] ∨ ∃ b o, a = some ⟨b, o, none⟩ ∧ b < B ∧ b < w.heap.size ∧ ∀ i x, l[i]? = some x → Kn.At w b (o + i * 3) x)
theorem Sk.At_below {B : Nat} {w w' : World} {b o : Nat} {v : Kn.V} (h : Kn.At w b o v) (hb : b < B) (g : Below B w w') : Kn.At w' b o v :=
 ⟨(g.cell (p := ⟨b, o, none⟩) hb).trans h.c0, (g.cell (p := ⟨b, o + 1, none⟩) hb).trans h.c1, (g.cell (p := ⟨b, o + 2, none⟩) hb).trans h.c2⟩
theorem Sk.Row.below {B : Nat} {w w' : World} {v : Value} {l : List Kn.V} (h : Sk.Row B w v l) (g : Below B w w') : Sk.Row B w' v l := by
 obtain ⟨a, c, hv, hm, hz, h⟩ := h
 refine ⟨a, c, hv, hm, hz, ?_⟩
 rcases h with h | ⟨b, o, ha, hb, hl, h⟩
 ·exact .inl h
 ·exact .inr ⟨b, o, ha, hb, Nat.lt_of_lt_of_le hl g.size, fun i x hx => Sk.At_below (h i x hx) hb g⟩
theorem Sk.Row.vals {B : Nat} {w : World} {v : Value} {l : List Kn.V} (h : Sk.Row B w v l) : Kn.Vals w v l := by
 obtain ⟨a, c, hv, hm, _, h⟩ := h
 refine ⟨a, c, hv, ?_⟩
 rcases h with h | ⟨b, o, ha, _, hl, h⟩
 ·exact .inl h
 ·exact .inr ⟨b, o, ha, hl, hm, h⟩
structure Sk.E where
 gone : Bool
 rv : Value
 row : List Kn.V
def Sk.E.enc (x : Sk.E) : List Value := [.bool x.gone, x.rv]
def Sk.E.d (x : Sk.E) : Dd.D := ⟨x.gone, x.row⟩
def Sk.kd (d : Dd.D) : Kn.V := d.row.headD ⟨true, 0, ⟨#[]⟩⟩
def Sk.ke (x : Sk.E) : Kn.V := Sk.kd x.d
structure Sk.Cell (w : World) (g i : Nat) (x : Sk.E) (rb ro rn rc : Nat) : Prop where
 c : w.cell? ⟨g, i * 2 + 1, none⟩ = some (.slice (some ⟨rb, ro, none⟩) rn rc)
 c0 : w.cell? ⟨g, i * 2, none⟩ = some (.bool x.gone)
 k : Kn.At w rb ro (Sk.ke x)
 pos : 0 < rn
 rv : x.rv = .slice (some ⟨rb, ro, none⟩) rn rc
end
section
open Go Go.RowKit
structure Sk.Nd where
 b : Nat
 gone : Bool
 rv : Value
 row : List Kn.V
 num : Nat
 h : Nat
def Sk.Nd.d (x : Sk.Nd) : Dd.D := ⟨x.gone, x.row⟩
def Sk.kn (x : Sk.Nd) : Kn.V := Sk.kd x.d
def Sk.Nd.up (x : Sk.Nd) (i : Nat) : Sk.Nd := { x with h := i }
def Sk.pt (o : Option Nat) : Value := .pointer (o.map fun b => ⟨b, 0, none⟩)
def Sk.lnk (i : Nat) : List Sk.Nd → Option Nat
 | [] => none
 | x :: r => if i < x.h then some x.b else Sk.lnk i r
def Sk.Nd.f (x : Sk.Nd) (r : List Sk.Nd) (j : Nat) : Value :=
 if j = 0 then .bool x.gone else if j = 1 then x.rv else if j = 2 then .int .i64 (x.num : Int) else if j - 3 < x.h then Sk.pt (Sk.lnk (j - 3) r) else .pointer none
def Sk.hf (st c b : Value) (N : List Sk.Nd) (j : Nat) : Value := if j < 12 then Sk.pt (Sk.lnk j N) else if j = 12 then st else if j = 13 then c else b
def Sk.lst (i : Nat) : Nat × Nat → List Sk.Nd → Nat × Nat
 | q, [] => q
 | q, x :: r => Sk.lst i (if i < x.h then (x.b, 3) else q) r
theorem Sk.first (i : Nat) (L : List Sk.Nd) : (Sk.lnk i L = none ∧ ∀ c ∈ L, c.h ≤ i) ∨ ∃ A x B, L = A ++ x :: B ∧ (∀ c ∈ A, c.h ≤ i) ∧ i < x.h ∧ Sk.lnk i L = some x.b := by
 induction L with
 | nil => exact .inl ⟨rfl, fun c hc => (by cases hc)⟩
 | cons y L ih =>
   by_cases hy : i < y.h
   ·exact .inr ⟨[], y, L, rfl, fun c hc => (by cases hc), hy, by rw [Sk.lnk, if_pos hy]⟩
   ·rcases ih with ⟨h1, h2⟩ | ⟨A, x, B, rfl, h2, h3, h4⟩
    ·refine .inl ⟨by rw [Sk.lnk, if_neg hy, h1], fun c hc => ?_⟩
     rcases List.mem_cons.1 hc with rfl | hc
     ·omega
     ·exact h2 c hc
    ·refine .inr ⟨y :: A, x, B, rfl, fun c hc => ?_, h3, by rw [Sk.lnk, if_neg hy, h4]⟩
     rcases List.mem_cons.1 hc with rfl | hc
     ·omega
     ·exact h2 c hc
section
variable {w : World}
end
def Sk.rest (p : Nat) (N : List Sk.Nd) (v : Value) : Nat := match v with
 | .pointer (some a) => if a.block = p then N.length else go a.block N
 | _ => 0
where go (b : Nat) : List Sk.Nd → Nat
 | [] => 0
 | x :: r => if x.b = b then r.length else go b r
end
section
open Go Go.RowKit
def Sk.ve (v : Kn.V) : List Value := [.bool v.null, .int .i64 v.n, .string v.s]
theorem Sk.ve_len (v : Kn.V) : (Sk.ve v).length = 3 := rfl
theorem Sk.ve_one (v : Kn.V) : ∀ u ∈ Sk.ve v, u.oneCell' = true := fun u hu => by
 simp only [Sk.ve, List.mem_cons, List.not_mem_nil, or_false] at hu
 rcases hu with rfl | rfl | rfl <;> rfl
def Sk.In (w : World) (v : Value) (l : List Kn.V) : Prop := ∃ a c, v = .slice a l.length c ∧ (∀ x ∈ l, Kn.Z x) ∧ l.length ≤ 4398046511104 ∧ ((a = none ∧ c = 0 ∧ l = []) ∨ ∃ b o, a = some ⟨b, o, none⟩ ∧ b < w.heap.size ∧ ∀ i x, l[i]? = some x → Kn.At w b (o + i * 3) x)
theorem Sk.In.later {w w' : World} {v : Value} {l : List Kn.V} (h : Sk.In w v l) (g : Below w.heap.size w w') : Sk.In w' v l := by
 obtain ⟨a, c, hv, hz, hl, h⟩ := h
 refine ⟨a, c, hv, hz, hl, ?_⟩
 rcases h with h | ⟨b, o, ha, hb, h⟩
 ·exact .inl h
 ·exact .inr ⟨b, o, ha, Nat.lt_of_lt_of_le hb g.size, fun i x hx => (h i x hx).later g⟩
abbrev Sk.Rw (base : Nat) (w : World) (v : Value) (l : List Kn.V) : Prop := Dk.Own 36 3 Sk.ve base w v l
theorem Sk.Rw.put {base q i : Nat} {w : World} {v u : Value} {l : List Kn.V} (h : Sk.Rw base w v l) (hq : q < base) : Sk.Rw base (w.setCell ⟨q, i, none⟩ u) v l :=
 h.same fun b hb => Below.heap_setCell _ _ _ _ (by have := h.base_le b hb; show b ≠ q; omega)
theorem Sk.Rw.mono {base base' : Nat} {w : World} {v : Value} {l : List Kn.V} (h : Sk.Rw base w v l) (hb : base' ≤ base) : Sk.Rw base' w v l := by
 refine ⟨h.1, ?_⟩
 rcases h.2 with hn | ⟨g, cap, cur, e1, hbg, rest⟩
 ·exact .inl hn
 ·exact .inr ⟨g, cap, cur, e1, Nat.le_trans hb hbg, rest⟩
end
section
open Go Go.RowKit
def Mg.Rl (L : List Dd.D) : Prop := ∀ d ∈ L, d.row.length ≤ 4398046511104
def Mg.Rb (base : Nat) (W : World) (Es : List Mg.Y) (L : List Dd.D) : Prop := Es.length = L.length ∧ ∀ (i : Nat) (x : Dd.D), L[i]? = some x → ∃ y, Es[i]? = some y ∧ y.1 = x.gone ∧ Dk.Own 36 3 Sk.ve base W (Bk.sv y.2) x.row
theorem Mg.ve_vals {base : Nat} {w : World} {v : Value} {l : List Kn.V} (h : Dk.Own 36 3 Sk.ve base w v l) : Kn.Vals w v l := by
 rcases h.form with ⟨rfl, rfl⟩ | ⟨g, c, rfl, h1, h2, _, hg⟩
 ·exact ⟨_, 0, rfl, .inl rfl⟩
 ·refine ⟨_, c, rfl, .inr ⟨g, 0, rfl, hg, by unfold maxLen at h2; omega, fun i x hx => ?_⟩⟩
  rw [Nat.zero_add]
  exact ⟨h.cell Sk.ve_len (g := g) rfl hx (j := 0) (by decide), h.cell Sk.ve_len (g := g) rfl hx (j := 1) (by decide), h.cell Sk.ve_len (g := g) rfl hx (j := 2) (by decide)⟩
theorem Mg.Rb.rd {base : Nat} {W : World} {Es : List Mg.Y} {L : List Dd.D} (h : Mg.Rb base W Es L) : Mg.Rd W Es L :=
 ⟨h.1, fun i x hx => by
  obtain ⟨y, e1, e2, e3⟩ := h.2 i x hx
  exact ⟨y, e1, e2, Mg.ve_vals e3⟩⟩
theorem Mg.Rb.kept {base : Nat} {W W' : World} {Es : List Mg.Y} {L : List Dd.D} (h : Mg.Rb base W Es L) (g : Below W.heap.size W W') : Mg.Rb base W' Es L :=
 ⟨h.1, fun i x hx => by
  obtain ⟨y, e1, e2, e3⟩ := h.2 i x hx
  exact ⟨y, e1, e2, e3.kept g⟩⟩
theorem Mg.Rb.grew {α : Type} {e : TypeId} {k : Nat} {enc : α → List Value} {B base : Nat} {W W' : World} {u u' : Value} {K : List α} {Es : List Mg.Y} {L : List Dd.D} (h : Mg.Rb base W Es L) (o : Dk.Own e k enc B W u K) (g : Ty.Grew W W' u u') (he : 36 ≠ e) : Mg.Rb base W' Es L :=
 ⟨h.1, fun i x hx => by
  obtain ⟨y, e1, e2, e3⟩ := h.2 i x hx
  refine ⟨y, e1, e2, e3.same fun b hb => g.by_.block b (e3.lt b hb) fun e' => ?_⟩
  obtain ⟨cs, h1⟩ := e3.typed b hb
  obtain ⟨cs2, h2⟩ := o.typed b e'.symm
  rw [h1] at h2
  simp only [Option.some.injEq, Obj.cells.injEq] at h2
  exact he h2.2.1⟩
theorem Mg.Rb.snoc {base : Nat} {W : World} {Es : List Mg.Y} {L : List Dd.D} (h : Mg.Rb base W Es L) {y : Mg.Y} {d : Dd.D} (h1 : y.1 = d.gone) (h2 : Dk.Own 36 3 Sk.ve base W (Bk.sv y.2) d.row) : Mg.Rb base W (Es ++ [y]) (L ++ [d]) := by
 refine ⟨by rw [List.length_append, List.length_append, h.1]; rfl, fun i x hx => ?_⟩
 rcases Nat.lt_or_ge i L.length with hi | hi
 ·rw [List.getElem?_append_left hi] at hx
  obtain ⟨z, e1, e2⟩ := h.2 i x hx
  exact ⟨z, by rw [List.getElem?_append_left (by rw [h.1]; exact hi)]; exact e1, e2⟩
 ·rw [List.getElem?_append_right hi] at hx
  cases hq : i - L.length with
  | zero =>
    rw [hq] at hx
    obtain rfl : d = x := by simpa using hx
    refine ⟨y, ?_, h1, h2⟩
    rw [List.getElem?_append_right (by rw [h.1]; exact hi), h.1, hq]
    rfl
  | succ q => rw [hq] at hx; simp at hx
end
end Go.Proofs.Ytodeodndjkkkbaa
