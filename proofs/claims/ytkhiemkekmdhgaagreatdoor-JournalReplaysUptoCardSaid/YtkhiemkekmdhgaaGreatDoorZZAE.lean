import Derived.Test.YtkhiemkekmdhgaaGreatDoorZZAD
import Derived.Test.YtkhiemkekmdhgaaGreatDoorZZAB
import Derived.Test.YtkhiemkekmdhgaaGreatDoorZZAC
import Derived.RegionCalls
import Derived.Deep.RegionWith
namespace Go.Proofs.YtkhiemkekmdhgaaGreatDoor
open Go Go.RowKit
section
variable {α : Type} (key : α → Kn.V)
def Sk.at_ (L : List α) (k : Kn.V) : Nat := (L.takeWhile fun x => decide (Kn.cmp (key x) k < 0)).length
def Sk.there (L : List α) (k : Kn.V) : Bool := match L[Sk.at_ key L k]? with | none => false | some x => !decide (Kn.cmp k (key x) < 0)
def Sk.put (L : List α) (x : α) : List α := L.take (Sk.at_ key L (key x)) ++ x :: L.drop (if Sk.there key L (key x) = true then Sk.at_ key L (key x) + 1 else Sk.at_ key L (key x))
def Sk.get (L : List α) (k : Kn.V) : Option α := if Sk.there key L k = true then L[Sk.at_ key L k]? else none
def Sk.from_ (L : List α) (k : Kn.V) : List α := L.drop (Sk.at_ key L k)
def Sk.Asc (L : List α) : Prop := L.Pairwise fun x y => Kn.cmp (key x) (key y) < 0
end
theorem Sk.cmp_self (a : Kn.V) : Kn.cmp a a = 0 := by have := (Kn.cmp_fair a a a).xa; omega
theorem Sk.cmp_anti (a b : Kn.V) : Kn.cmp b a = -Kn.cmp a b := (Kn.cmp_fair a b b).xa
theorem Sk.lt_trans {a b c : Kn.V} (h : Kn.cmp a b < 0) (g : Kn.cmp b c < 0) : Kn.cmp a c < 0 := by
 have f := Kn.cmp_fair a b c
 have h1 := f.le (by omega) (by omega)
 have h2 := f.lt (by omega) (by omega)
 by_cases e : Kn.cmp a c = 0
 ·have := h2 e; omega
 ·omega
theorem Sk.eq_left {a b c : Kn.V} (h : Kn.cmp a b = 0) : Kn.cmp a c = Kn.cmp b c := by
 have f := Kn.cmp_fair a b c
 have g := Kn.cmp_fair b a c
 have ha := Sk.cmp_anti a b
 have h1 := f.xr
 have h2 := f.yr
 have h3 := f.zr
 have h4 := f.le
 have h5 := f.lt
 have h6 := f.ge
 have h7 := f.gt
 have g4 := g.le
 have g5 := g.lt
 have g6 := g.ge
 have g7 := g.gt
 omega
theorem Sk.eq_right {a b c : Kn.V} (h : Kn.cmp b c = 0) : Kn.cmp a b = Kn.cmp a c := by
 have := Sk.eq_left (a := b) (b := c) (c := a) h
 have h1 := Sk.cmp_anti b a
 have h2 := Sk.cmp_anti c a
 omega
section
variable {α : Type} {key : α → Kn.V}
theorem Sk.at_le (L : List α) (k : Kn.V) : Sk.at_ key L k ≤ L.length := by
 unfold Sk.at_
 exact (List.takeWhile_prefix _).length_le
theorem Sk.at_nil (k : Kn.V) : Sk.at_ key [] k = 0 := rfl
theorem Sk.at_cons (x : α) (L : List α) (k : Kn.V) : Sk.at_ key (x :: L) k = if Kn.cmp (key x) k < 0 then Sk.at_ key L k + 1 else 0 := by
 unfold Sk.at_
 by_cases h : Kn.cmp (key x) k < 0
 ·rw [if_pos h, List.takeWhile_cons_of_pos (by simpa using h), List.length_cons]
 ·rw [if_neg h, List.takeWhile_cons_of_neg (by simpa using h), List.length_nil]
theorem Sk.at_lt {L : List α} {k : Kn.V} : ∀ {i : Nat} {x : α}, i < Sk.at_ key L k → L[i]? = some x → Kn.cmp (key x) k < 0 := by
 induction L with
 | nil => intro i x h; simp [Sk.at_nil] at h
 | cons y L ih =>
   intro i x h hx
   rw [Sk.at_cons] at h
   by_cases hy : Kn.cmp (key y) k < 0
   ·rw [if_pos hy] at h
    cases i with
    | zero => obtain rfl : y = x := by simpa using hx
              exact hy
    | succ i => exact ih (i := i) (by omega) (by simpa using hx)
   ·rw [if_neg hy] at h; omega
theorem Sk.at_ge {L : List α} {k : Kn.V} {x : α} (hx : L[Sk.at_ key L k]? = some x) : ¬ Kn.cmp (key x) k < 0 := by
 induction L with
 | nil => simp at hx
 | cons y L ih =>
   rw [Sk.at_cons] at hx
   by_cases hy : Kn.cmp (key y) k < 0
   ·rw [if_pos hy] at hx
    exact ih (by simpa using hx)
   ·rw [if_neg hy] at hx
    obtain rfl : y = x := by simpa using hx
    exact hy
theorem Sk.at_is {L : List α} {k : Kn.V} {i : Nat} (hi : i ≤ L.length) (h : ∀ j x, j < i → L[j]? = some x → Kn.cmp (key x) k < 0) (hg : ∀ x, L[i]? = some x → ¬ Kn.cmp (key x) k < 0) : Sk.at_ key L k = i := by
 rcases Nat.lt_trichotomy (Sk.at_ key L k) i with h1 | h1 | h1
 ·have hx : L[Sk.at_ key L k]? = some (L[Sk.at_ key L k]'(by omega)) := List.getElem?_eq_getElem _
  exact absurd (h _ _ h1 hx) (Sk.at_ge hx)
 ·exact h1
 ·have := Sk.at_le (key := key) L k
  have hx : L[i]? = some (L[i]'(by omega)) := List.getElem?_eq_getElem _
  exact absurd (Sk.at_lt h1 hx) (hg _ hx)
theorem Sk.map_at {β : Type} (f : α → β) (kb : β → Kn.V) (hk : ∀ x, kb (f x) = key x) (L : List α) (k : Kn.V) : Sk.at_ kb (L.map f) k = Sk.at_ key L k := by
 induction L with
 | nil => rfl
 | cons y L ih => rw [List.map_cons, Sk.at_cons, Sk.at_cons, hk, ih]
theorem Sk.map_there {β : Type} (f : α → β) (kb : β → Kn.V) (hk : ∀ x, kb (f x) = key x) (L : List α) (k : Kn.V) : Sk.there kb (L.map f) k = Sk.there key L k := by
 unfold Sk.there
 rw [Sk.map_at f kb hk, List.getElem?_map]
 cases L[Sk.at_ key L k]? with
 | none => rfl
 | some x => simp only [Option.map_some, hk]
theorem Sk.map_put {β : Type} (f : α → β) (kb : β → Kn.V) (hk : ∀ x, kb (f x) = key x) (L : List α) (x : α) : Sk.put kb (L.map f) (f x) = (Sk.put key L x).map f := by
 unfold Sk.put
 rw [hk, Sk.map_at f kb hk, Sk.map_there f kb hk, List.map_append, List.map_cons, List.map_take, List.map_drop]
theorem Sk.there_some {L : List α} {k : Kn.V} (h : Sk.there key L k = true) : ∃ x, L[Sk.at_ key L k]? = some x ∧ Kn.cmp (key x) k = 0 := by
 unfold Sk.there at h
 cases hx : L[Sk.at_ key L k]? with
 | none => rw [hx] at h; cases h
 | some x =>
   rw [hx] at h
   have h1 := Sk.at_ge hx
   have h2 := Sk.cmp_anti k (key x)
   refine ⟨x, rfl, ?_⟩
   simp only [Bool.not_eq_true', decide_eq_false_iff_not] at h
   omega
theorem Sk.there_none {L : List α} {k : Kn.V} (h : Sk.there key L k = false) : ∀ x, L[Sk.at_ key L k]? = some x → 0 < Kn.cmp (key x) k := by
 intro x hx
 unfold Sk.there at h
 rw [hx] at h
 have h2 := Sk.cmp_anti k (key x)
 simp only [Bool.not_eq_false', decide_eq_true_eq] at h
 omega
theorem Sk.asc_behind {L : List α} (ha : Sk.Asc key L) {i j : Nat} {x y : α} (hij : i < j) (hx : L[i]? = some x) (hy : L[j]? = some y) : Kn.cmp (key x) (key y) < 0 := by
 have hj : j < L.length := (List.getElem?_eq_some_iff.1 hy).1
 obtain ⟨h1, rfl⟩ := List.getElem?_eq_some_iff.1 hx
 obtain ⟨h2, rfl⟩ := List.getElem?_eq_some_iff.1 hy
 exact List.pairwise_iff_getElem.1 ha i j h1 h2 hij
theorem Sk.get_mem {L : List α} (ha : Sk.Asc key L) {k : Kn.V} {x : α} : Sk.get key L k = some x ↔ x ∈ L ∧ Kn.cmp (key x) k = 0 := by
 constructor
 ·intro h
  unfold Sk.get at h
  split at h
  ·next ht =>
   obtain ⟨y, hy, he⟩ := Sk.there_some ht
   rw [hy] at h
   obtain rfl : y = x := by simpa using h
   exact ⟨List.mem_of_getElem? hy, he⟩
  ·cases h
 ·rintro ⟨hm, he⟩
  obtain ⟨i, hi, e⟩ := List.getElem_of_mem hm
  have hx : L[i]? = some x := by rw [List.getElem?_eq_getElem hi, e]
  have hat : Sk.at_ key L k = i := Sk.at_is (Nat.le_of_lt hi) (fun j y hj hy => by
   have := Sk.asc_behind ha hj hy hx
   rw [Sk.eq_right he] at this
   exact this) (fun y hy => by
   rw [hx] at hy
   obtain rfl : x = y := by simpa using hy
   omega)
  have ht : Sk.there key L k = true := by
   unfold Sk.there
   rw [hat, hx]
   have := Sk.cmp_anti k (key x)
   simp only [Bool.not_eq_true', decide_eq_false_iff_not]
   omega
  unfold Sk.get
  rw [if_pos ht, hat, hx]
theorem Sk.get_none {L : List α} (ha : Sk.Asc key L) {k : Kn.V} : Sk.get key L k = none ↔ ∀ x ∈ L, Kn.cmp (key x) k ≠ 0 := by
 constructor
 ·intro h x hx he
  have := (Sk.get_mem ha).2 ⟨hx, he⟩
  rw [h] at this
  cases this
 ·intro h
  cases hg : Sk.get key L k with
  | none => rfl
  | some x =>
    obtain ⟨h1, h2⟩ := (Sk.get_mem ha).1 hg
    exact absurd h2 (h x h1)
theorem Sk.mem_put {L : List α} (ha : Sk.Asc key L) {x y : α} : y ∈ Sk.put key L x ↔ y = x ∨ (y ∈ L ∧ Kn.cmp (key y) (key x) ≠ 0) := by
 unfold Sk.put
 rw [List.mem_append, List.mem_cons]
 have htk : y ∈ L.take (Sk.at_ key L (key x)) → y ∈ L ∧ Kn.cmp (key y) (key x) ≠ 0 := fun h => by
  obtain ⟨i, hi, e⟩ := List.getElem_of_mem h
  rw [List.length_take] at hi
  have hy : L[i]? = some y := by
   rw [List.getElem_take] at e
   rw [List.getElem?_eq_getElem (by omega), e]
  have := Sk.at_lt (key := key) (k := key x) (by omega) hy
  exact ⟨List.mem_of_mem_take h, by omega⟩
 constructor
 ·rintro (h | h | h)
  ·exact .inr (htk h)
  ·exact .inl h
  ·refine .inr ⟨List.mem_of_mem_drop h, ?_⟩
   obtain ⟨i, hi, e⟩ := List.getElem_of_mem h
   rw [List.length_drop] at hi
   rw [List.getElem_drop] at e
   have hy : L[(if Sk.there key L (key x) = true then Sk.at_ key L (key x) + 1 else Sk.at_ key L (key x)) + i]? = some y := by
    rw [List.getElem?_eq_getElem (by omega), e]
   by_cases ht : Sk.there key L (key x) = true
   ·rw [if_pos ht] at hy
    obtain ⟨z, hz, he⟩ := Sk.there_some ht
    have := Sk.asc_behind ha (i := Sk.at_ key L (key x)) (j := Sk.at_ key L (key x) + 1 + i) (by omega) hz hy
    rw [Sk.eq_left he] at this
    have h2 := Sk.cmp_anti (key x) (key y)
    omega
   ·rw [if_neg ht] at hy
    have ht' : Sk.there key L (key x) = false := by simpa using ht
    cases i with
    | zero => have := Sk.there_none ht' y (by simpa using hy); omega
    | succ i =>
      have hlt : Sk.at_ key L (key x) < L.length := by
       have := (List.getElem?_eq_some_iff.1 hy).1
       omega
      have hz : L[Sk.at_ key L (key x)]? = some L[Sk.at_ key L (key x)] := List.getElem?_eq_getElem hlt
      have h1 := Sk.there_none ht' _ hz
      have h2 := Sk.asc_behind ha (i := Sk.at_ key L (key x)) (j := Sk.at_ key L (key x) + (i + 1)) (by omega) hz hy
      have h3 := Sk.cmp_anti (key x) (key y)
      have h4 := Sk.cmp_anti (key x) (key L[Sk.at_ key L (key x)])
      have h5 := Sk.lt_trans (a := key x) (by omega) h2
      omega
 ·rintro (h | ⟨h, hne⟩)
  ·exact .inr (.inl h)
  ·obtain ⟨i, hi, e⟩ := List.getElem_of_mem h
   have hy : L[i]? = some y := by rw [List.getElem?_eq_getElem hi, e]
   rcases Nat.lt_or_ge i (Sk.at_ key L (key x)) with h1 | h1
   ·refine .inl (List.mem_of_getElem? (i := i) ?_)
    rw [List.getElem?_take, if_pos h1, hy]
   ·refine .inr (.inr ?_)
    by_cases ht : Sk.there key L (key x) = true
    ·rw [if_pos ht]
     obtain ⟨z, hz, he⟩ := Sk.there_some ht
     rcases Nat.lt_or_ge (Sk.at_ key L (key x)) i with h2 | h2
     ·refine List.mem_of_getElem? (i := i - (Sk.at_ key L (key x) + 1)) ?_
      rw [List.getElem?_drop, show Sk.at_ key L (key x) + 1 + (i - (Sk.at_ key L (key x) + 1)) = i by omega, hy]
     ·have : i = Sk.at_ key L (key x) := by omega
      rw [← this, hy] at hz
      obtain rfl : y = z := by simpa using hz
      exact absurd he hne
    ·rw [if_neg ht]
     refine List.mem_of_getElem? (i := i - Sk.at_ key L (key x)) ?_
     rw [List.getElem?_drop, show Sk.at_ key L (key x) + (i - Sk.at_ key L (key x)) = i by omega, hy]
theorem Sk.put_asc {L : List α} (ha : Sk.Asc key L) (x : α) : Sk.Asc key (Sk.put key L x) := by
 have hsub : ∀ y, y ∈ L.drop (if Sk.there key L (key x) = true then Sk.at_ key L (key x) + 1 else Sk.at_ key L (key x)) → Kn.cmp (key x) (key y) < 0 := fun y hy => by
  obtain ⟨i, hi, e⟩ := List.getElem_of_mem hy
  rw [List.length_drop] at hi
  rw [List.getElem_drop] at e
  have hy : L[(if Sk.there key L (key x) = true then Sk.at_ key L (key x) + 1 else Sk.at_ key L (key x)) + i]? = some y := by
   rw [List.getElem?_eq_getElem (by omega), e]
  by_cases ht : Sk.there key L (key x) = true
  ·rw [if_pos ht] at hy
   obtain ⟨z, hz, he⟩ := Sk.there_some ht
   have := Sk.asc_behind ha (i := Sk.at_ key L (key x)) (j := Sk.at_ key L (key x) + 1 + i) (by omega) hz hy
   rwa [Sk.eq_left he] at this
  ·rw [if_neg ht] at hy
   have ht' : Sk.there key L (key x) = false := by simpa using ht
   have hlt : Sk.at_ key L (key x) < L.length := by
    have := (List.getElem?_eq_some_iff.1 hy).1
    omega
   have hz : L[Sk.at_ key L (key x)]? = some L[Sk.at_ key L (key x)] := List.getElem?_eq_getElem hlt
   have h1 := Sk.there_none ht' _ hz
   have h4 := Sk.cmp_anti (key x) (key L[Sk.at_ key L (key x)])
   cases i with
   | zero =>
     rw [Nat.add_zero, hz] at hy
     obtain rfl : L[Sk.at_ key L (key x)] = y := by simpa using hy
     omega
   | succ i => exact Sk.lt_trans (a := key x) (by omega) (Sk.asc_behind ha (i := Sk.at_ key L (key x)) (j := Sk.at_ key L (key x) + (i + 1)) (by omega) hz hy)
 have htk : ∀ y, y ∈ L.take (Sk.at_ key L (key x)) → Kn.cmp (key y) (key x) < 0 := fun y h => by
  obtain ⟨i, hi, e⟩ := List.getElem_of_mem h
  rw [List.length_take] at hi
  rw [List.getElem_take] at e
  exact Sk.at_lt (key := key) (k := key x) (L := L) (i := i) (by omega) (by rw [List.getElem?_eq_getElem (by omega), e])
 unfold Sk.put Sk.Asc
 rw [List.pairwise_append, List.pairwise_cons]
 refine ⟨List.Pairwise.sublist (List.take_sublist _ _) ha, ⟨hsub, List.Pairwise.sublist (List.drop_sublist _ _) ha⟩, fun y hy z hz => ?_⟩
 rcases List.mem_cons.1 hz with rfl | hz
 ·exact htk y hy
 ·exact Sk.lt_trans (htk y hy) (hsub z hz)
theorem Sk.get_put {L : List α} (ha : Sk.Asc key L) (x : α) (k : Kn.V) : Sk.get key (Sk.put key L x) k = if Kn.cmp (key x) k = 0 then some x else Sk.get key L k := by
 have hp := Sk.put_asc ha x
 by_cases h : Kn.cmp (key x) k = 0
 ·rw [if_pos h]
  exact (Sk.get_mem hp).2 ⟨(Sk.mem_put ha).2 (.inl rfl), h⟩
 ·rw [if_neg h]
  cases hg : Sk.get key L k with
  | none =>
    rw [Sk.get_none hp]
    intro y hy
    rcases (Sk.mem_put ha).1 hy with rfl | ⟨hy, _⟩
    ·exact h
    ·exact (Sk.get_none ha).1 hg y hy
  | some y =>
    obtain ⟨hy, he⟩ := (Sk.get_mem ha).1 hg
    refine (Sk.get_mem hp).2 ⟨(Sk.mem_put ha).2 (.inr ⟨hy, fun e => h ?_⟩), he⟩
    rw [← he, Sk.eq_left e]
theorem Sk.asc_ext : ∀ {L M : List α}, Sk.Asc key L → Sk.Asc key M → (∀ y, y ∈ L ↔ y ∈ M) → L = M
 | [], [], _, _, _ => rfl
 | [], y :: M, _, _, h => absurd ((h y).2 List.mem_cons_self) (by simp)
 | x :: L, [], _, _, h => absurd ((h x).1 List.mem_cons_self) (by simp)
 | x :: L, y :: M, ha, hb, h => by
   unfold Sk.Asc at ha hb
   rw [List.pairwise_cons] at ha hb
   have hxy : x = y := by
    rcases List.mem_cons.1 ((h x).1 List.mem_cons_self) with e | hx
    ·exact e
    ·rcases List.mem_cons.1 ((h y).2 List.mem_cons_self) with e | hy
     ·exact e.symm
     ·have h1 := ha.1 y hy
      have h2 := hb.1 x hx
      have h3 := Sk.cmp_anti (key x) (key y)
      omega
   subst hxy
   congr 1
   refine Sk.asc_ext ha.2 hb.2 fun z => ?_
   constructor
   ·intro hz
    rcases List.mem_cons.1 ((h z).1 (List.mem_cons_of_mem _ hz)) with e | hz'
    ·have := ha.1 z hz
     rw [e, Sk.cmp_self] at this
     omega
    ·exact hz'
   ·intro hz
    rcases List.mem_cons.1 ((h z).2 (List.mem_cons_of_mem _ hz)) with e | hz'
    ·have := hb.1 z hz
     rw [e, Sk.cmp_self] at this
     omega
    ·exact hz'
theorem Sk.put_len (L : List α) (x : α) : (Sk.put key L x).length ≤ L.length + 1 := by
 have := Sk.at_le (key := key) L (key x)
 unfold Sk.put
 rw [List.length_append, List.length_cons, List.length_take, List.length_drop]
 split <;> omega
end
end Go.Proofs.YtkhiemkekmdhgaaGreatDoor
namespace Go.Proofs.YtkhiemkekmdhgaaGreatDoor
open Go.RowKit
def Kn.isK (k : Int) (v : Kn.V) : Bool :=
 if v.null = true then (v.n == 0) && (v.s.toList == (⟨#[]⟩ : ByteArray).toList)
 else if k = 1 then v.s.toList == (⟨#[]⟩ : ByteArray).toList
 else (k == 2) && ((v.n == 0) && decide (v.s.size ≤ 64))
set_option maxHeartbeats 1000000 in
set_option maxRecDepth 100000 in
theorem Kn.rIs_c (k : Int) (v : Kn.V) (w : World) :
 Calls Tryz.prog 115 #[.int .i64 k, v.val] w fun e w' => e = .returned (.bool (Kn.isK k v)) ∧ Below w.heap.size w w' := by
 obtain ⟨vn, vi, vs⟩ := v
 unfold Kn.V.val
 have hk : ((k == 1) = true ∧ k = 1) ∨ ((k == 1) = false ∧ k ≠ 1) := by
  by_cases h : k = 1
  ·left; exact ⟨by rw [h]; rfl, h⟩
  ·right; exact ⟨by rw [beq_eq_false_iff_ne]; exact h, h⟩
 have he : (⟨#[]⟩ : ByteArray).toList = [] := by rw [ByteArray.toList_eq]
 generalize hB : Kn.isK k ⟨vn, vi, vs⟩ = B
 have HB := Lib.hid hB
 clear hB
 cases vn
 ·rcases hk with ⟨hk, rfl⟩ | ⟨hk, hk2⟩
  all_goals
   go_enter Tryz.func115, Tryz.ntmps115
   go_wp2
  all_goals
   go_ret
   refine ⟨?_, (Below.refl _ w).alloc (Nat.le_refl _) _⟩
   rw [← HB.out]
   simp_all [Kn.isK]
   try omega
 ·go_enter Tryz.func115, Tryz.ntmps115
  go_wp2
  all_goals
   go_ret
   refine ⟨?_, (Below.refl _ w).alloc (Nat.le_refl _) _⟩
   rw [← HB.out]
   simp_all [Kn.isK]
   try omega
theorem Kn.isK_fits (c : Kn.C) (v : Kn.V) (h : c.good = true) : Kn.fits c v = (Kn.isK c.k v && !(v.null && !c.null)) := by
 obtain ⟨ck, cn⟩ := c
 obtain ⟨vn, vi, vs⟩ := v
 have hk : ck = 1 ∨ ck = 2 := by
  unfold Kn.C.good at h
  by_cases h1 : ck = 1
  ·exact .inl h1
  ·by_cases h2 : ck = 2
   ·exact .inr h2
   ·have e1 : (ck != 1) = true := by rw [bne_iff_ne]; exact h1
    have e2 : (ck != 2) = true := by rw [bne_iff_ne]; exact h2
    simp only [e1, e2] at h
    cases h
 unfold Kn.fits Kn.isK
 rcases hk with rfl | rfl <;> cases vn <;> cases cn <;> simp
theorem Kn.right_ends (l : List Kn.C) (ha : (l.take l.length).all Kn.C.good = true) (hh : 0 < l.length → Kn.headOk l = true) : (¬ 1 ≤ l.length → Kn.right l = false) ∧ (1 ≤ l.length → ¬ l.length ≤ 6 → Kn.right l = false) ∧ (1 ≤ l.length → l.length ≤ 6 → Kn.right l = true) := by
 rw [List.take_length] at ha
 unfold Kn.right
 rw [ha]
 refine ⟨fun h => ?_, fun _ h => ?_, fun h1 h2 => ?_⟩
 ·rw [decide_eq_false h]; rfl
 ·rw [decide_eq_false (p := l.length ≤ 6) h]; simp
 ·rw [hh (by omega), decide_eq_true h1, decide_eq_true h2]; rfl
theorem Kn.head_ok (l : List Kn.C) (x : Kn.C) (h : l[0]? = some x) : Kn.headOk l = !x.null := by
 cases l with
 | nil => cases h
 | cons y t => obtain rfl : y = x := by simpa using h
               rfl
set_option maxHeartbeats 1000000 in
set_option maxRecDepth 100000 in
theorem Kn.rRight_c (v : Value) (l : List Kn.C) (w : World) (h : Kn.Cols w v l) :
 Calls Tryz.prog 22 #[v] w fun e w' => e = .returned (.bool (Kn.right l)) ∧ w' = w := by
 obtain ⟨a, c, rfl, h⟩ := h
 have hm : l.length ≤ 9223372036854775807 := by
  rcases h with rfl | ⟨_, _, _, _, hm, _⟩
  ·simp
  ·exact hm
 generalize hB : Kn.right l = B
 have HB := Lib.hid hB
 clear hB
 go_enter Tryz.func22, Tryz.ntmps22
 go_wp2
 go_loop [3] (fun i => ∃ k : Nat, k ≤ l.length ∧ i = .int .i64 k ∧ (l.take k).all Kn.C.good = true ∧ (0 < k → Kn.headOk l = true)) (fun i => l.length - (intOf i).toNat)
 case atStart => exact ⟨0, by omega, rfl, rfl, by omega⟩
 case round =>
  obtain ⟨k, hk, rfl, hg, hh⟩ := hrel
  by_cases hkl : k < l.length
  ·rcases h with rfl | ⟨b, o, rfl, hlt, _, hc⟩
   ·simp at hkl
   ·have hx := List.getElem?_eq_getElem hkl
    generalize l[k] = x at hx
    obtain ⟨e0, e1⟩ := hc k x hx
    have dk : (k : Int) < (l.length : Int) := by omega
    have HX := Lib.hid hx
    have HH := Lib.hid hh
    have HG := Lib.hid hg
    clear hx hh hg hc
    have hw : ((k : Int) == 0) = true ∧ k = 0 ∨ ((k : Int) == 0) = false ∧ k ≠ 0 := by
     by_cases h0 : k = 0
     ·left; subst h0; exact ⟨rfl, rfl⟩
     ·right; exact ⟨by rw [beq_eq_false_iff_ne]; omega, h0⟩
    rcases Kn.good_ways x with ⟨g, g1⟩ | ⟨g, g1, g2⟩ | ⟨g, g1, g2⟩
    ·have GG := Lib.hid g
     clear g
     rcases hw with ⟨w0, rfl⟩ | ⟨w0, k0⟩
     ·rw [Nat.zero_mul, Nat.add_zero] at e0 e1
      cases hn : x.null
      ·rw [hn] at e1
       have HN := Lib.hid hn
       clear hn
       go_wp2
       go_round
       case rel => exact ⟨0 + 1, by omega, by simp, Kn.all_step l 0 x HX.out GG.out HG.out, fun _ => by rw [Kn.head_ok l x HX.out, HN.out]; rfl⟩
       case measure => simp [intOf]; omega
      ·rw [hn] at e1
       have he : B = false := HB.out.symm.trans (Kn.right_null l x HX.out hn)
       clear hn
       subst he
       go_wp2
       go_ret
       exact ⟨rfl, rfl⟩
     ·have HZ := Lib.hid k0
      clear k0
      go_wp2
      go_round
      case rel => exact ⟨k + 1, by omega, by simp, Kn.all_step l k x HX.out GG.out HG.out, fun _ => HH.out (by have := HZ.out; omega)⟩
      case measure => simp [intOf]; omega
    ·have GG := Lib.hid g
     clear g
     rcases hw with ⟨w0, rfl⟩ | ⟨w0, k0⟩
     ·rw [Nat.zero_mul, Nat.add_zero] at e0 e1
      cases hn : x.null
      ·rw [hn] at e1
       have HN := Lib.hid hn
       clear hn
       go_wp2
       go_round
       case rel => exact ⟨0 + 1, by omega, by simp, Kn.all_step l 0 x HX.out GG.out HG.out, fun _ => by rw [Kn.head_ok l x HX.out, HN.out]; rfl⟩
       case measure => simp [intOf]; omega
      ·rw [hn] at e1
       have he : B = false := HB.out.symm.trans (Kn.right_null l x HX.out hn)
       clear hn
       subst he
       go_wp2
       go_ret
       exact ⟨rfl, rfl⟩
     ·have HZ := Lib.hid k0
      clear k0
      go_wp2
      go_round
      case rel => exact ⟨k + 1, by omega, by simp, Kn.all_step l k x HX.out GG.out HG.out, fun _ => HH.out (by have := HZ.out; omega)⟩
      case measure => simp [intOf]; omega
    ·have he : B = false := HB.out.symm.trans (Kn.right_bad l k x HX.out g)
     clear g
     subst he
     go_wp2
     go_ret
     exact ⟨rfl, rfl⟩
  ·obtain rfl : k = l.length := by omega
   have dk : ¬ (l.length : Int) < (l.length : Int) := by omega
   have HE := Lib.hid (Kn.right_ends l hg hh)
   clear hg hh h
   by_cases h1 : 1 ≤ l.length
   ·have d1 : (1 : Int) ≤ (l.length : Int) := by omega
    by_cases h2 : l.length ≤ 6
    ·have d2 : (l.length : Int) ≤ 6 := by omega
     have he : B = true := HB.out.symm.trans (HE.out.2.2 h1 h2)
     subst he
     go_wp2
     go_ret
     exact ⟨rfl, rfl⟩
    ·have d2 : ¬ (l.length : Int) ≤ 6 := by omega
     have he : B = false := HB.out.symm.trans (HE.out.2.1 h1 h2)
     subst he
     go_wp2
     go_ret
     exact ⟨rfl, rfl⟩
   ·have d1 : ¬ (1 : Int) ≤ (l.length : Int) := by omega
    have he : B = false := HB.out.symm.trans (HE.out.1 h1)
    subst he
    go_wp2
    go_ret
    exact ⟨rfl, rfl⟩
end Go.Proofs.YtkhiemkekmdhgaaGreatDoor
namespace Go.Proofs.YtkhiemkekmdhgaaGreatDoor.Ig
open Go.RowKit
open Ty (num encU zig zag I64 U64)
def nth (L : List Int) (i : Nat) : Int := L.getD i 0
def prv (L : List Int) : Nat → Int
 | 0 => 0
 | k + 1 => nth L k
def Run (L : List Int) (k : Nat) : Prop := 0 < k ∧ k ≤ L.length ∧ (∀ j, j < k → nth L j = nth L 0) ∧ (k < L.length → nth L k ≠ nth L 0)
theorem nth_drop (L : List Int) (k i : Nat) : nth (L.drop k) i = nth L (k + i) := by
 unfold nth
 rw [List.getD, List.getD, List.getElem?_drop]
end Go.Proofs.YtkhiemkekmdhgaaGreatDoor.Ig
namespace Go.Proofs.YtkhiemkekmdhgaaGreatDoor
open Go.RowKit
def Ty.Cur (b : Nat) (w : World) (l : List UInt8) (e : Nat) : Prop := w.heap[b]? = some (.cells #[.string (Ty.S l), .int .i64 (e : Int)] 126 (0, 0))
theorem Ty.Cur.cells {b : Nat} {w : World} {l : List UInt8} {e : Nat} (h : Ty.Cur b w l e) : w.cell? ⟨b, 0, none⟩ = some (.string (Ty.S l)) ∧ w.cell? ⟨b, 1, none⟩ = some (.int .i64 (e : Int)) ∧ w.frozen? ⟨b, 0, none⟩ = false ∧ w.frozen? ⟨b, 1, none⟩ = false := by
 unfold Ty.Cur at h
 refine ⟨?_, ?_, ?_, ?_⟩ <;> simp [World.cell?, World.frozen?, h]
theorem Ty.Cur.lt {b : Nat} {w : World} {l : List UInt8} {e : Nat} (h : Ty.Cur b w l e) : b < w.heap.size := lt_of_block h
theorem Ty.two_set0 {w : World} {b : Nat} {x y u : Value} {t : TypeId} (h : w.heap[b]? = some (.cells #[x, y] t (0, 0))) : (w.setCell ⟨b, 0, none⟩ u).heap[b]? = some (.cells #[u, y] t (0, 0)) := by
 have hlt := lt_of_block h
 have h' : w.heap[b] = .cells #[x, y] t (0, 0) := by simpa [Array.getElem?_eq_getElem hlt] using h
 show (w.heap.modify b _)[b]? = _
 rw [Array.getElem?_eq_getElem (by simpa using hlt), Array.getElem_modify_self, h']
 rfl
theorem Ty.two_set1 {w : World} {b : Nat} {x y u : Value} {t : TypeId} (h : w.heap[b]? = some (.cells #[x, y] t (0, 0))) : (w.setCell ⟨b, 1, none⟩ u).heap[b]? = some (.cells #[x, u] t (0, 0)) := by
 have hlt := lt_of_block h
 have h' : w.heap[b] = .cells #[x, y] t (0, 0) := by simpa [Array.getElem?_eq_getElem hlt] using h
 show (w.heap.modify b _)[b]? = _
 rw [Array.getElem?_eq_getElem (by simpa using hlt), Array.getElem_modify_self, h']
 rfl
theorem Ty.by_set (w : World) (b o : Nat) (u : Value) : w.grownBy (w.setCell ⟨b, o, none⟩ u) (some b) :=
 ⟨rfl, rfl, rfl, by simp [World.setCell], fun k _ hk => Below.heap_setCell _ _ _ _ (fun e => hk (by rw [e]))⟩
theorem Ty.by_refl (w : World) (r : Option Nat) : w.grownBy w r := ⟨rfl, rfl, rfl, Nat.le_refl _, fun _ _ _ => rfl⟩
theorem Ty.by_trans {a b c : World} {r : Option Nat} (h : a.grownBy b r) (k : b.grownBy c r) : a.grownBy c r :=
 ⟨k.os.trans h.os, k.tape.trans h.tape, k.output.trans h.output, Nat.le_trans h.size k.size, fun i hi hn => (k.block i (Nat.lt_of_lt_of_le hi h.size) hn).trans (h.block i hi hn)⟩
theorem Ty.Tabs.kept {w w' : World} (h : Ty.Tabs w) (hs : w.heap.size ≤ w'.heap.size) (hb : ∀ k, k < Ty.G → w'.heap[k]? = w.heap[k]?) : Ty.Tabs w' := by
 have hc : ∀ k o v, k < Ty.G → w.cell? ⟨k, o, none⟩ = some v → w'.cell? ⟨k, o, none⟩ = some v := fun k o v hk hv => (World.cell?_of_block (a := ⟨k, o, none⟩) (hb k hk)).trans hv
 exact ⟨hc _ _ _ (by decide) h.z0, hc _ _ _ (by decide) h.z1, hc _ _ _ (by decide) h.z2, hc _ _ _ (by decide) h.z3, hc _ _ _ (by decide) h.s0, hc _ _ _ (by decide) h.s1, hc _ _ _ (by decide) h.s2, hc _ _ _ (by decide) h.s3, Nat.le_trans h.two hs⟩
theorem Ty.Tabs.by {w w' : World} {r : Option Nat} (h : Ty.Tabs w) (hg : w.grownBy w' r) (hr : ∀ k, r = some k → Ty.G ≤ k) : Ty.Tabs w' :=
 h.kept hg.size fun k hk => hg.block k (by have := h.two; omega) (fun e => by have := hr k e.symm; omega)
def Ty.Left (b : Nat) (w : World) (v : Value) (l : List UInt8) (e' : Nat) (e : Ending) (w' : World) : Prop := e = .returned v ∧ Ty.Cur b w' l e' ∧ w.grownBy w' (some b)
set_option maxHeartbeats 400000 in
theorem Ty.from_c (l : List UInt8) (w : World) :
 Calls Tryz.prog 41 #[.string (Ty.S l)] w fun e w' => e = .returned (.pointer (some ⟨w.heap.size, 0, none⟩)) ∧ w' = w.alloc (.cells #[.string (Ty.S l), .int .i64 0] 126 (0, 0)) := by
 go_enter Tryz.func41, Tryz.ntmps41
 go_wp2
 go_ret
 exact ⟨rfl, rfl⟩
set_option maxHeartbeats 400000 in
theorem Ty.err_c (b : Nat) (l : List UInt8) (er : Nat) (w : World) (h : Ty.Cur b w l er) :
 Calls Tryz.prog 107 #[.pointer (some ⟨b, 0, none⟩)] w fun e w' => e = .returned (.int .i64 (er : Int)) ∧ w' = w := by
 obtain ⟨c0, c1, _, _⟩ := h.cells
 go_enter Tryz.func107, Tryz.ntmps107
 go_wp2
 go_ret
 exact ⟨rfl, rfl⟩
set_option maxHeartbeats 400000 in
theorem Ty.left_c (b : Nat) (l : List UInt8) (er : Nat) (w : World) (h : Ty.Cur b w l er) :
 Calls Tryz.prog 108 #[.pointer (some ⟨b, 0, none⟩)] w fun e w' => e = .returned (.int .i64 (l.length : Int)) ∧ w' = w := by
 obtain ⟨c0, c1, _, _⟩ := h.cells
 go_enter Tryz.func108, Tryz.ntmps108
 go_wp2
 go_ret
 exact ⟨rfl, rfl⟩
set_option maxHeartbeats 400000 in
theorem Ty.advance_c (b : Nat) (l : List UInt8) (er sz e' : Nat) (w : World) (h : Ty.Cur b w l er) (hsz : sz ≤ l.length) (hl : l.length ≤ 9223372036854775807) :
 Calls Tryz.prog 129 #[.pointer (some ⟨b, 0, none⟩), .int .i64 (sz : Int), .int .i64 (e' : Int)] w (Ty.Left b w (.tuple #[]) (l.drop sz) e') := by
 obtain ⟨c0, c1, f0, f1⟩ := h.cells
 have hss : sz ≤ (Ty.S l).size := hsz
 have hsl : (Ty.S l).size ≤ 9223372036854775807 := hl
 go_enter Tryz.func129, Tryz.ntmps129
 go_wp2
 go_end0
 have e1 : (Ty.S l).extract sz (Ty.S l).size = Ty.S (l.drop sz) := by
  rw [Ty.extract_S, Ty.data_S, Ty.size_S, List.take_of_length_le (by simp)]
 rw [e1]
 exact ⟨rfl, Ty.two_set1 (Ty.two_set0 h), Ty.by_trans (Ty.by_set _ _ _ _) (Ty.by_set _ _ _ _)⟩
def Ty.rdU (l : List UInt8) (e : Nat) : Nat × List UInt8 × Nat := if e ≠ 0 then (0, l, e) else ((Ty.num l).1, l.drop (Ty.num l).2.1, (Ty.num l).2.2)
def Ty.rdT (most : Int) (l : List UInt8) (e : Nat) : List UInt8 × List UInt8 × Nat := if e ≠ 0 then ([], l, e) else ((Ty.txt l most).1, l.drop (Ty.txt l most).2.1, (Ty.txt l most).2.2)
def Ty.rdB (l : List UInt8) (e : Nat) : Nat × List UInt8 × Nat := if e ≠ 0 then (0, l, e) else match l with
 | [] => (0, [], 2)
 | b :: r => (b.toNat, r, 0)
set_option maxHeartbeats 400000 in
theorem Ty.cuint_c (b : Nat) (l : List UInt8) (er : Nat) (w : World) (hw : Ty.Tabs w) (h : Ty.Cur b w l er) (hl : l.length ≤ 9223372036854775807) :
 Calls Tryz.prog 132 #[.pointer (some ⟨b, 0, none⟩)] w (Ty.Left b w (.int .u64 ((Ty.rdU l er).1 : Int)) (Ty.rdU l er).2.1 (Ty.rdU l er).2.2) := by
 obtain ⟨c0, c1, f0, f1⟩ := h.cells
 by_cases he : er = 0
 ·subst he
  have hsz := Ty.num_size l
  have HR : Hid (Ty.rdU l 0 = ((Ty.num l).1, l.drop (Ty.num l).2.1, (Ty.num l).2.2)) := Lib.hid (by simp [Ty.rdU])
  rw [HR.out]
  go_enter Tryz.func132, Tryz.ntmps132
  go_wp2_with fail
  refine (Ty.err_c b l 0 _ h).mono ?_
  rintro e w' ⟨rfl, rfl⟩
  go_wp2_with fail
  refine (Ty.number_c (Ty.S l) _ hw hl).mono ?_
  rintro e w2 ⟨rfl, rfl⟩
  unfold Ty.numV
  rw [Ty.data_S]
  go_wp2_with fail
  refine (Ty.advance_c b l 0 _ _ _ h hsz hl).mono ?_
  rintro e w3 ⟨rfl, hc, hg⟩
  go_wp2
  go_ret
  exact ⟨rfl, hc, hg⟩
 ·have hne : ((er : Int) != 0) = true := by rw [bne_iff_ne]; omega
  have HR : Hid (Ty.rdU l er = (0, l, er)) := Lib.hid (by simp [Ty.rdU, he])
  rw [HR.out]
  clear he
  go_enter Tryz.func132, Tryz.ntmps132
  go_wp2_with fail
  refine (Ty.err_c b l er _ h).mono ?_
  rintro e w' ⟨rfl, rfl⟩
  go_wp2
  go_ret
  exact ⟨rfl, h, Ty.by_refl _ _⟩
end Go.Proofs.YtkhiemkekmdhgaaGreatDoor
namespace Go.Proofs.YtkhiemkekmdhgaaGreatDoor
open Go.RowKit
theorem Ty.rdU_u64 (l : List UInt8) (e : Nat) : Ty.U64 (Ty.rdU l e).1 := by
 unfold Ty.rdU
 split
 ·show (0 : Nat) < 2 ^ 64; omega
 ·exact Ty.num_u64 l
set_option maxHeartbeats 400000 in
theorem Ty.cint_c (b : Nat) (l : List UInt8) (er : Nat) (w : World) (hw : Ty.Tabs w) (h : Ty.Cur b w l er) (hl : l.length ≤ 9223372036854775807) :
 Calls Tryz.prog 106 #[.pointer (some ⟨b, 0, none⟩)] w (Ty.Left b w (.int .i64 (Ty.zag ((Ty.rdU l er).1 : Int))) (Ty.rdU l er).2.1 (Ty.rdU l er).2.2) := by
 have hu := Ty.rdU_u64 l er
 go_enter Tryz.func106, Tryz.ntmps106
 go_wp2_with fail
 refine (Ty.cuint_c b l er _ hw h hl).mono ?_
 rintro e w1 ⟨rfl, hc, hg⟩
 go_wp2_with fail
 refine (Ty.signed_nat _ _ hu).mono ?_
 rintro e w2 ⟨rfl, rfl⟩
 go_wp2
 go_ret
 exact ⟨rfl, hc, hg⟩
set_option maxHeartbeats 400000 in
theorem Ty.ctext_c (b : Nat) (l : List UInt8) (er : Nat) (most : Int) (hm : -9223372036854775808 ≤ most ∧ most ≤ 9223372036854775807) (w : World) (hw : Ty.Tabs w) (h : Ty.Cur b w l er) (hl : l.length ≤ 9223372036854775807) :
 Calls Tryz.prog 105 #[.pointer (some ⟨b, 0, none⟩), .int .i64 most] w (Ty.Left b w (.string (Ty.S (Ty.rdT most l er).1)) (Ty.rdT most l er).2.1 (Ty.rdT most l er).2.2) := by
 obtain ⟨c0, c1, f0, f1⟩ := h.cells
 by_cases he : er = 0
 ·subst he
  have hsz := Ty.txt_size l most
  have HR : Hid (Ty.rdT most l 0 = ((Ty.txt l most).1, l.drop (Ty.txt l most).2.1, (Ty.txt l most).2.2)) := Lib.hid (by simp [Ty.rdT])
  rw [HR.out]
  go_enter Tryz.func105, Tryz.ntmps105
  go_wp2_with fail
  refine (Ty.err_c b l 0 _ h).mono ?_
  rintro e w' ⟨rfl, rfl⟩
  go_wp2_with fail
  refine (Ty.text_r (Ty.S l) most _ hw hl hm).mono ?_
  rintro e w2 ⟨rfl, rfl⟩
  unfold Ty.txtV
  rw [Ty.data_S]
  go_wp2_with fail
  refine (Ty.advance_c b l 0 _ _ _ h hsz hl).mono ?_
  rintro e w3 ⟨rfl, hc, hg⟩
  go_wp2
  go_ret
  exact ⟨rfl, hc, hg⟩
 ·have hne : ((er : Int) != 0) = true := by rw [bne_iff_ne]; omega
  have HR : Hid (Ty.rdT most l er = ([], l, er)) := Lib.hid (by simp [Ty.rdT, he])
  rw [HR.out]
  clear he
  go_enter Tryz.func105, Tryz.ntmps105
  go_wp2_with fail
  refine (Ty.err_c b l er _ h).mono ?_
  rintro e w' ⟨rfl, rfl⟩
  go_wp2
  go_ret
  exact ⟨rfl, h, Ty.by_refl _ _⟩
set_option maxHeartbeats 400000 in
theorem Ty.cbyte_c (b : Nat) (l : List UInt8) (er : Nat) (w : World) (h : Ty.Cur b w l er) (hl : l.length ≤ 9223372036854775807) :
 Calls Tryz.prog 104 #[.pointer (some ⟨b, 0, none⟩)] w (Ty.Left b w (.int .i64 ((Ty.rdB l er).1 : Int)) (Ty.rdB l er).2.1 (Ty.rdB l er).2.2) := by
 obtain ⟨c0, c1, f0, f1⟩ := h.cells
 by_cases he : er = 0
 ·subst he
  cases l with
  | nil =>
    have hemp : (Ty.S []).toList.isEmpty = true := by rw [ByteArray.toList_eq]; rfl
    go_enter Tryz.func104, Tryz.ntmps104
    go_wp2_with fail
    refine (Ty.err_c b [] 0 _ h).mono ?_
    rintro e w' ⟨rfl, rfl⟩
    go_wp2
    go_ret
    exact ⟨rfl, Ty.two_set1 h, Ty.by_set _ _ _ _⟩
  | cons x r =>
    have hp : 0 < (Ty.S (x :: r)).size := by rw [Ty.size_S]; simp
    have hemp : (Ty.S (x :: r)).toList.isEmpty = false := Ty.isEmpty_pos _ hp
    go_enter Tryz.func104, Tryz.ntmps104
    go_wp2_with fail
    refine (Ty.err_c b (x :: r) 0 _ h).mono ?_
    rintro e w' ⟨rfl, rfl⟩
    go_wp2_with fail
    refine (Ty.advance_c b (x :: r) 0 1 0 _ h (by simp) hl).mono ?_
    rintro e w3 ⟨rfl, hc, hg⟩
    go_wp2
    go_ret
    exact ⟨Ty.ret_i ((IntWalk.wrap64_in _ (by have := (Ty.S (x :: r))[0].toNat_lt; omega)).trans rfl), hc, hg⟩
 ·have hne : ((er : Int) != 0) = true := by rw [bne_iff_ne]; omega
  have HR : Hid (Ty.rdB l er = (0, l, er)) := Lib.hid (by simp [Ty.rdB, he])
  rw [HR.out]
  clear he
  go_enter Tryz.func104, Tryz.ntmps104
  go_wp2_with fail
  refine (Ty.err_c b l er _ h).mono ?_
  rintro e w' ⟨rfl, rfl⟩
  go_wp2
  go_ret
  exact ⟨rfl, h, Ty.by_refl _ _⟩
def Ty.fin (l : List UInt8) (e : Nat) : Nat := if e = 0 ∧ l ≠ [] then 5 else e
set_option maxHeartbeats 400000 in
theorem Ty.done_c (b : Nat) (l : List UInt8) (er : Nat) (w : World) (h : Ty.Cur b w l er) :
 Calls Tryz.prog 78 #[.pointer (some ⟨b, 0, none⟩)] w fun e w' => e = .returned (.int .i64 (Ty.fin l er : Int)) ∧ w' = w := by
 by_cases he : er = 0
 ·subst he
  by_cases hl : (0 : Int) < l.length
  ·have HF : Hid (Ty.fin l 0 = 5) := Lib.hid (by unfold Ty.fin; rw [if_pos ⟨rfl, by intro e; subst e; simp at hl⟩])
   go_enter Tryz.func78, Tryz.ntmps78
   go_wp2_with fail
   refine (Ty.err_c b l 0 _ h).mono ?_
   rintro e w' ⟨rfl, rfl⟩
   go_wp2_with fail
   refine (Ty.left_c b l 0 _ h).mono ?_
   rintro e w' ⟨rfl, rfl⟩
   go_wp2
   go_ret
   exact ⟨by rw [HF.out]; rfl, rfl⟩
  ·have HF : Hid (Ty.fin l 0 = 0) := Lib.hid (by unfold Ty.fin; rw [if_neg (by rintro ⟨_, h2⟩; exact h2 (List.eq_nil_of_length_eq_zero (by omega)))])
   go_enter Tryz.func78, Tryz.ntmps78
   go_wp2_with fail
   refine (Ty.err_c b l 0 _ h).mono ?_
   rintro e w' ⟨rfl, rfl⟩
   go_wp2_with fail
   refine (Ty.left_c b l 0 _ h).mono ?_
   rintro e w' ⟨rfl, rfl⟩
   go_wp2_with fail
   refine (Ty.err_c b l 0 _ h).mono ?_
   rintro e w' ⟨rfl, rfl⟩
   go_wp2
   go_ret
   exact ⟨by rw [HF.out]; rfl, rfl⟩
 ·have hne : ((er : Int) == 0) = false := by rw [beq_eq_false_iff_ne]; omega
  have HF : Hid (Ty.fin l er = er) := Lib.hid (by unfold Ty.fin; rw [if_neg (by rintro ⟨h1, _⟩; exact he h1)])
  clear he
  go_enter Tryz.func78, Tryz.ntmps78
  go_wp2_with fail
  refine (Ty.err_c b l er _ h).mono ?_
  rintro e w' ⟨rfl, rfl⟩
  go_wp2_with fail
  refine (Ty.err_c b l er _ h).mono ?_
  rintro e w' ⟨rfl, rfl⟩
  go_wp2
  go_ret
  exact ⟨by rw [HF.out]; rfl, rfl⟩
end Go.Proofs.YtkhiemkekmdhgaaGreatDoor
namespace Go.Proofs.YtkhiemkekmdhgaaGreatDoor
open Go.RowKit
theorem Ty.Tabs.below {w w' : World} (h : Ty.Tabs w) {b : Nat} (hb : Below b w w') (hG : Ty.G ≤ b) : Ty.Tabs w' := h.kept hb.size fun k hk => hb.block k (by omega)
theorem Ty.below_by {w w' : World} {B : Nat} {r : Option Nat} (hg : w.grownBy w' r) (hB : B ≤ w.heap.size) (hr : ∀ k, r = some k → B ≤ k) : Below B w w' :=
 (Below.refl B w).grown hg hB hr
theorem Ty.Cur.by {b : Nat} {w w' : World} {l : List UInt8} {e : Nat} (h : Ty.Cur b w l e) {r : Option Nat} (hg : w.grownBy w' r) (hr : r ≠ some b) : Ty.Cur b w' l e := by
 unfold Ty.Cur at h ⊢
 rw [hg.block b (lt_of_block h) (fun e => hr e.symm)]
 exact h
theorem Ty.Tabs.alloc {w : World} (h : Ty.Tabs w) (o : Obj) : Ty.Tabs (w.alloc o) := h.below ((Below.refl w.heap.size w).alloc (Nat.le_refl _) o) h.two
end Go.Proofs.YtkhiemkekmdhgaaGreatDoor
namespace Go.Proofs.YtkhiemkekmdhgaaGreatDoor
open Go.RowKit
theorem Ty.Tabs.drew {w : World} (h : Ty.Tabs w) : Ty.Tabs w.drew := h.kept (Nat.le_refl _) fun _ _ => rfl
theorem Ty.Buf.later {base : Nat} {w w' : World} {v : Value} {bs : List UInt8} (h : Ty.Buf base w v bs) (hb : Below w.heap.size w w') : Ty.Buf base w' v bs :=
 h.kept fun k hk => hb.block k (h.lt k hk).2
theorem Ty.Buf.str {base : Nat} {w : World} {v : Value} {bs : List UInt8} (h : Ty.Buf base w v bs) : (convert 98 9 v).run Tryz.prog w = .ok (.string (Ty.S bs)) w :=
 h.string 98 9 Tryz.underlying98 Tryz.underlying5 Tryz.underlying9
def Ty.Fresh (w : World) (bs : List UInt8) (e : Ending) (w' : World) : Prop := ∃ v', e = .returned v' ∧ Ty.Buf w.heap.size w' v' bs ∧ Ty.Tabs w' ∧ Below w.heap.size w w'
theorem Ty.Written.fresh {w : World} {bs : List UInt8} {e : Ending} {w' : World} (h : Ty.Written w.heap.size w (.slice none 0 0) bs e w') (hw : Ty.Tabs w) : Ty.Fresh w bs e w' := by
 obtain ⟨v', rfl, hB, hG⟩ := h
 have hb := Ty.below_by hG.by_ (Nat.le_refl w.heap.size) (by intro k hk; cases hk)
 exact ⟨v', rfl, hB, hw.below hb hw.two, hb⟩
theorem Ty.below_at {w w' : World} {B b : Nat} (hg : w.grownBy w' (some b)) (hB : B ≤ w.heap.size) (hb : B ≤ b) : Below B w w' := Ty.below_by hg hB (by intro k hk; cases hk; exact hb)
theorem Ty.Tabs.at_ {w w' : World} {b : Nat} (h : Ty.Tabs w) (hg : w.grownBy w' (some b)) (hb : Ty.G ≤ b) : Ty.Tabs w' := h.by hg (by intro k hk; cases hk; exact hb)
theorem Ty.Cur.at_ {b c : Nat} {w w' : World} {l : List UInt8} {e : Nat} (h : Ty.Cur b w l e) (hg : w.grownBy w' (some c)) (hb : c ≠ b) : Ty.Cur b w' l e := h.by hg (by intro h; exact hb (Option.some.inj h))
theorem Ty.Cur.below {b : Nat} {w w' : World} {l : List UInt8} {e B : Nat} (h : Ty.Cur b w l e) (hb : Below B w w') (hB : b < B) : Ty.Cur b w' l e := by
 unfold Ty.Cur at h ⊢
 rw [hb.block b hB]
 exact h
end Go.Proofs.YtkhiemkekmdhgaaGreatDoor
namespace Go.Proofs.YtkhiemkekmdhgaaGreatDoor
open Go.RowKit
def Ty.RMid (base n sz k : Nat) (wr : World) (v : Value) : Prop :=
 (k = sz ∧ Ty.Buf base wr v []) ∨ (k < sz ∧ ∃ done, Ty.encU n = done ++ Ty.low k n ∧ done.length + k ≤ 9 ∧ Ty.Buf base wr v done)
theorem Ty.Buf.base {base : Nat} {w : World} {v : Value} {bs : List UInt8} (h : Ty.Buf base w v bs) : ∀ k, v.ownBlock = some k → base ≤ k := fun k hk => (h.lt k hk).1
def Ty.Str (w : World) (bs : List UInt8) (e : Ending) (w' : World) : Prop := e = .returned (.string (Ty.S bs)) ∧ Below w.heap.size w w'
theorem Ty.RMid.first {base n sz k : Nat} {w1 : World} {v1 : Value} (hk : k = Ty.after (Ty.form n)) (hs : sz = k + 1) {X : Int} (hX : X = ((Ty.head n).toNat : Int)) (h1 : ∀ u : UInt8, X = (u.toNat : Int) → Ty.Buf base w1 v1 ([] ++ [u])) : Ty.RMid base n sz k w1 v1 :=
 .inr ⟨by omega, [Ty.head n], by rw [hk]; exact Ty.encU_split n, by have := Ty.after_le n; simp; omega, h1 _ hX⟩
theorem Ty.RMid.next {base n sz k : Nat} {done : List UInt8} {w1 : World} {v1 : Value} (hd : Ty.encU n = done ++ Ty.low (k + 1) n) (hl : done.length + (k + 1) ≤ 9) (hk : k + 1 < sz)
 (h1 : ∀ u : UInt8, ((n : Int) / 2 ^ (8 * k) % 256) = (u.toNat : Int) → Ty.Buf base w1 v1 (done ++ [u])) : Ty.RMid base n sz k w1 v1 :=
 .inr ⟨by omega, done ++ [UInt8.ofNat (n / 256 ^ k % 256)], by rw [hd, Ty.low_succ]; simp, by simp; omega, h1 _ (Ty.low_byte n k)⟩
theorem Ty.rhead0 (n : Nat) (h : Ty.form n = 0) : (n : Int) % 256 = ((Ty.head n).toNat : Int) := by
 have := (Ty.head_is n).1
 have hb := Ty.form_is n
 rw [h] at this; simp [Ty.after] at this; omega
theorem Ty.rhead1 (n : Nat) (h : Ty.form n = 1) : ((n : Int) / 256 + 64) % 256 = ((Ty.head n).toNat : Int) := by
 have := (Ty.head_is n).1
 have hb := Ty.form_is n
 rw [h] at this; simp [Ty.after] at this; omega
theorem Ty.rhead2 (n : Nat) (h : Ty.form n = 2) : ((n : Int) / 16777216 + 128) % 256 = ((Ty.head n).toNat : Int) := by
 have := (Ty.head_is n).1
 have hb := Ty.form_is n
 rw [h] at this; simp [Ty.after] at this; omega
theorem Ty.rhead3 (n : Nat) (h : Ty.form n = 3) : (192 : Int) = ((Ty.head n).toNat : Int) := by
 have := (Ty.head_is n).1
 rw [h] at this; simp at this; omega
set_option maxHeartbeats 2000000 in
theorem Ty.ruint_nat (n : Nat) (w : World) :
 Calls Tryz.prog 88 #[.int .u64 n] w (Ty.Str w (Ty.encU n)) := by
 have hf : ((n : Int) < 64 ∧ Ty.form n = 0) ∨ (¬ (n : Int) < 64 ∧ (n : Int) < 16384 ∧ Ty.form n = 1) ∨ (¬ (n : Int) < 64 ∧ ¬ (n : Int) < 16384 ∧ (n : Int) < 1073741824 ∧ Ty.form n = 2) ∨ (¬ (n : Int) < 64 ∧ ¬ (n : Int) < 16384 ∧ ¬ (n : Int) < 1073741824 ∧ Ty.form n = 3) := by have := Ty.form_is n; omega
 rcases hf with ⟨h1, hf⟩ | ⟨h1, h2, hf⟩ | ⟨h1, h2, h3, hf⟩ | ⟨h1, h2, h3, hf⟩
 ·have HF := Lib.hid hf
  clear hf
  go_enter Tryz.func88, Tryz.ntmps88
  go_wp2
  go_loopw [5, 6] (fun vr i wr => ∃ k : Nat, i = .int .i64 ((k : Int) - 1) ∧ Ty.RMid w.heap.size n 1 k wr vr ∧ Below w.heap.size w wr) (fun _ i _ => (intOf i + 1).toNat)
  case atStart => exact ⟨1, rfl, .inl ⟨rfl, Ty.Buf.nil _ _⟩, Below.refl _ _⟩
  case round =>
   try clear h3
   try clear h2
   clear h1
   obtain ⟨k, rfl, hm, hb⟩ := hrel
   have hbs := hb.size
   rcases hm with ⟨rfl, hB⟩ | ⟨hk, done, hd, hl, hB⟩
   ·go_wp2_with (at_builtin; refine Ty.wpList_append_byte hB hbs (by simp) (.tmp 39) (.tmp 41) _ rfl rfl rfl rfl ?_; intro v2 w2 h2 g2)
    have hb2 := hb.trans (g2.below hbs hB.base)
    refine ⟨⟨0, rfl, Ty.RMid.first (by rw [HF.out]; rfl) rfl (Ty.rhead0 n HF.out) h2, hb2⟩, by simp [intOf]⟩
   ·have hk0 : k = 0 := by omega
    subst hk0
    have Hdn : Hid (Ty.encU n = done) := Lib.hid (by simpa [Ty.low] using hd)
    have hcv := hB.str
    clear hd
    go_wp2
    go_ret
    exact ⟨by rw [Hdn.out]; rfl, hb⟩
 ·have HF := Lib.hid hf
  clear hf
  go_enter Tryz.func88, Tryz.ntmps88
  go_wp2
  go_loopw [5, 6] (fun vr i wr => ∃ k : Nat, i = .int .i64 ((k : Int) - 1) ∧ Ty.RMid w.heap.size n 2 k wr vr ∧ Below w.heap.size w wr) (fun _ i _ => (intOf i + 1).toNat)
  case atStart => exact ⟨2, rfl, .inl ⟨rfl, Ty.Buf.nil _ _⟩, Below.refl _ _⟩
  case round =>
   try clear h3
   try clear h2
   clear h1
   obtain ⟨k, rfl, hm, hb⟩ := hrel
   have hbs := hb.size
   rcases hm with ⟨rfl, hB⟩ | ⟨hk, done, hd, hl, hB⟩
   ·go_wp2_with (at_builtin; refine Ty.wpList_append_byte hB hbs (by simp) (.tmp 39) (.tmp 41) _ rfl rfl rfl rfl ?_; intro v2 w2 h2 g2)
    have hb2 := hb.trans (g2.below hbs hB.base)
    refine ⟨⟨1, rfl, Ty.RMid.first (by rw [HF.out]; rfl) rfl (Ty.rhead1 n HF.out) h2, hb2⟩, by simp [intOf]⟩
   ·rcases k with _ | k
    ·have Hdn : Hid (Ty.encU n = done) := Lib.hid (by simpa [Ty.low] using hd)
     have hcv := hB.str
     clear hd
     go_wp2
     go_ret
     exact ⟨by rw [Hdn.out]; rfl, hb⟩
    ·have Hd := Lib.hid hd
     clear hd
     have hne : ((k : Int) == 1) = false := by rw [beq_eq_false_iff_ne]; omega
     have hl2 : done.length + 1 ≤ 140737488355328 := by omega
     go_wp2_with (at_builtin; refine Ty.wpList_append_byte hB hbs hl2 (.tmp 39) (.tmp 41) _ rfl rfl rfl rfl ?_; intro v2 w2 h2 g2)
     go_roundw
     have hb2 := hb.trans (g2.below hbs hB.base)
     case rel => exact ⟨k, rfl, Ty.RMid.next Hd.out hl hk h2, hb2⟩
     case measure => simp [intOf]
 ·have HF := Lib.hid hf
  clear hf
  go_enter Tryz.func88, Tryz.ntmps88
  go_wp2
  go_loopw [5, 6] (fun vr i wr => ∃ k : Nat, i = .int .i64 ((k : Int) - 1) ∧ Ty.RMid w.heap.size n 4 k wr vr ∧ Below w.heap.size w wr) (fun _ i _ => (intOf i + 1).toNat)
  case atStart => exact ⟨4, rfl, .inl ⟨rfl, Ty.Buf.nil _ _⟩, Below.refl _ _⟩
  case round =>
   try clear h3
   try clear h2
   clear h1
   obtain ⟨k, rfl, hm, hb⟩ := hrel
   have hbs := hb.size
   rcases hm with ⟨rfl, hB⟩ | ⟨hk, done, hd, hl, hB⟩
   ·go_wp2_with (at_builtin; refine Ty.wpList_append_byte hB hbs (by simp) (.tmp 39) (.tmp 41) _ rfl rfl rfl rfl ?_; intro v2 w2 h2 g2)
    have hb2 := hb.trans (g2.below hbs hB.base)
    refine ⟨⟨3, rfl, Ty.RMid.first (by rw [HF.out]; rfl) rfl (Ty.rhead2 n HF.out) h2, hb2⟩, by simp [intOf]⟩
   ·rcases k with _ | k
    ·have Hdn : Hid (Ty.encU n = done) := Lib.hid (by simpa [Ty.low] using hd)
     have hcv := hB.str
     clear hd
     go_wp2
     go_ret
     exact ⟨by rw [Hdn.out]; rfl, hb⟩
    ·have Hd := Lib.hid hd
     clear hd
     have hne : ((k : Int) == 3) = false := by rw [beq_eq_false_iff_ne]; omega
     have hl2 : done.length + 1 ≤ 140737488355328 := by omega
     go_wp2_with (at_builtin; refine Ty.wpList_append_byte hB hbs hl2 (.tmp 39) (.tmp 41) _ rfl rfl rfl rfl ?_; intro v2 w2 h2 g2)
     go_roundw
     have hb2 := hb.trans (g2.below hbs hB.base)
     case rel => exact ⟨k, rfl, Ty.RMid.next Hd.out hl hk h2, hb2⟩
     case measure => simp [intOf]
 ·have HF := Lib.hid hf
  clear hf
  go_enter Tryz.func88, Tryz.ntmps88
  go_wp2
  go_loopw [5, 6] (fun vr i wr => ∃ k : Nat, i = .int .i64 ((k : Int) - 1) ∧ Ty.RMid w.heap.size n 9 k wr vr ∧ Below w.heap.size w wr) (fun _ i _ => (intOf i + 1).toNat)
  case atStart => exact ⟨9, rfl, .inl ⟨rfl, Ty.Buf.nil _ _⟩, Below.refl _ _⟩
  case round =>
   try clear h3
   try clear h2
   clear h1
   obtain ⟨k, rfl, hm, hb⟩ := hrel
   have hbs := hb.size
   rcases hm with ⟨rfl, hB⟩ | ⟨hk, done, hd, hl, hB⟩
   ·go_wp2_with (at_builtin; refine Ty.wpList_append_byte hB hbs (by simp) (.tmp 39) (.tmp 41) _ rfl rfl rfl rfl ?_; intro v2 w2 h2 g2)
    have hb2 := hb.trans (g2.below hbs hB.base)
    refine ⟨⟨8, rfl, Ty.RMid.first (by rw [HF.out]; rfl) rfl (Ty.rhead3 n HF.out) h2, hb2⟩, by simp [intOf]⟩
   ·rcases k with _ | k
    ·have Hdn : Hid (Ty.encU n = done) := Lib.hid (by simpa [Ty.low] using hd)
     have hcv := hB.str
     clear hd
     go_wp2
     go_ret
     exact ⟨by rw [Hdn.out]; rfl, hb⟩
    ·have Hd := Lib.hid hd
     clear hd
     have hne : ((k : Int) == 8) = false := by rw [beq_eq_false_iff_ne]; omega
     have hl2 : done.length + 1 ≤ 140737488355328 := by omega
     go_wp2_with (at_builtin; refine Ty.wpList_append_byte hB hbs hl2 (.tmp 39) (.tmp 41) _ rfl rfl rfl rfl ?_; intro v2 w2 h2 g2)
     go_roundw
     have hb2 := hb.trans (g2.below hbs hB.base)
     case rel => exact ⟨k, rfl, Ty.RMid.next Hd.out hl hk h2, hb2⟩
     case measure => simp [intOf]
set_option maxHeartbeats 400000 in
theorem Ty.rtext_c (s : ByteArray) (hs : s.size ≤ 140737488351232) (w : World) :
 Calls Tryz.prog 58 #[.string s] w (Ty.Str w (Ty.encU s.size ++ s.data.toList)) := by
 have h9 : (Ty.S (Ty.encU s.size)).size ≤ 9 := Ty.encU_len9 _
 go_enter Tryz.func58, Tryz.ntmps58
 go_wp2_with fail
 refine (Ty.ruint_nat s.size _).mono ?_
 rintro e w1 ⟨rfl, hb⟩
 go_wp2
 go_ret
 exact ⟨congrArg (fun x => Ending.returned (.string x)) (ByteArray.mk_append_mk (Ty.encU s.size) s.data.toList), hb⟩
theorem Ty.fw_neg {n : Int} (h : Ty.I64 n) (h0 : n < 0) : IntKind.u64.wrap (IntKind.u64.wrap (2 * IntKind.u64.wrap (wrap64 (-wrap64 (n + 1)))) + 1) = Ty.zig n := by
 unfold Ty.I64 at h; unfold Ty.zig; simp only [IntKind.wrap_u64]; unfold wrap64; rw [if_neg (by omega)]; omega
theorem Ty.fw_pos {n : Int} (h : Ty.I64 n) (h0 : 0 ≤ n) : IntKind.u64.wrap (2 * IntKind.u64.wrap n) = Ty.zig n := by
 unfold Ty.I64 at h; unfold Ty.zig; simp only [IntKind.wrap_u64]; rw [if_pos (by omega)]; omega
set_option maxHeartbeats 400000 in
theorem Ty.fold_c (n : Int) (w : World) (hn : Ty.I64 n) :
 Calls Tryz.prog 89 #[.int .i64 n] w fun e w' => e = .returned (.int .u64 (Ty.zig n)) ∧ w' = w := by
 by_cases h : n < 0
 ·have H := Lib.hid (Ty.fw_neg hn h)
  go_enter Tryz.func89, Tryz.ntmps89
  go_wp2
  go_ret
  exact ⟨Ty.ret_i H.out, rfl⟩
 ·have H := Lib.hid (Ty.fw_pos hn (by omega))
  go_enter Tryz.func89, Tryz.ntmps89
  go_wp2
  go_ret
  exact ⟨Ty.ret_i H.out, rfl⟩
theorem Ty.ruint_c (z : Int) (h0 : 0 ≤ z) (w : World) :
 Calls Tryz.prog 88 #[.int .u64 z] w (Ty.Str w (Ty.encU z.toNat)) := by
 have := Ty.ruint_nat z.toNat w
 rwa [Int.toNat_of_nonneg h0] at this
set_option maxHeartbeats 400000 in
theorem Ty.rint_c (n : Int) (w : World) (hn : Ty.I64 n) :
 Calls Tryz.prog 57 #[.int .i64 n] w (Ty.Str w (Ty.encU (Ty.zig n).toNat)) := by
 go_enter Tryz.func57, Tryz.ntmps57
 go_wp2_with fail
 refine (Ty.fold_c n _ hn).mono ?_
 rintro e w' ⟨rfl, rfl⟩
 go_wp2_with fail
 refine (Ty.ruint_c _ (Ty.zig_nonneg n) _).mono ?_
 rintro e w1 ⟨rfl, hb⟩
 go_wp2
 go_ret
 exact ⟨rfl, hb⟩
set_option maxHeartbeats 400000 in
theorem Ty.open_nat (n : Nat) (w : World) (hn : Ty.U64 n) :
 Calls Tryz.prog 111 #[.int .u64 n] w fun e w' => e = .returned (.int .i64 (Ty.zag n)) ∧ w' = w := by
 by_cases h : n % 2 = 1
 ·have H := Lib.hid (Ty.w_odd hn h)
  go_enter Tryz.func111, Tryz.ntmps111
  go_wp2
  go_ret
  exact ⟨Ty.ret_i H.out, rfl⟩
 ·have H := Lib.hid (Ty.w_even hn h)
  go_enter Tryz.func111, Tryz.ntmps111
  go_wp2
  go_ret
  exact ⟨Ty.ret_i H.out, rfl⟩
end Go.Proofs.YtkhiemkekmdhgaaGreatDoor
namespace Go.Proofs.YtkhiemkekmdhgaaGreatDoor
open Go.RowKit
theorem Ty.S_beq (a b : List UInt8) : ((Ty.S a).toList == (Ty.S b).toList) = (a == b) := by rw [ByteArray.toList_eq, ByteArray.toList_eq]; rfl
end Go.Proofs.YtkhiemkekmdhgaaGreatDoor
namespace Go.Proofs.YtkhiemkekmdhgaaGreatDoor
open Go.RowKit
end Go.Proofs.YtkhiemkekmdhgaaGreatDoor
