import Derived.Test.YtkhiemkekmdhgaaGreatDoorZZAH
import Derived.Test.YtkhiemkekmdhgaaGreatDoorZZAA
import Derived.Test.YtkhiemkekmdhgaaGreatDoorZZAI
import Derived.Test.YtkhiemkekmdhgaaGreatDoorZZAB
import Derived.Lib.QuietBelow
import Derived.BigQuiet
namespace Go.Proofs.YtkhiemkekmdhgaaGreatDoor
open Go
open Ty (num txt encU U64 I64)
open Ig (rest)
open Tx (encT)
theorem Bk.fitsAll_at : ∀ (s : List Kn.C) (r : List Kn.V), Kn.fitsAll s r = true → ∀ (j : Nat) (c : Kn.C) (v : Kn.V), s[j]? = some c → r[j]? = some v → Kn.fits c v = true
 | c :: s, v :: r, h, 0, c', v', hc, hv => by
   obtain rfl : c = c' := by simpa using hc
   obtain rfl : v = v' := by simpa using hv
   simp only [Kn.fitsAll, Bool.and_eq_true] at h
   exact h.1
 | c :: s, v :: r, h, j + 1, c', v', hc, hv => by
   simp only [Kn.fitsAll, Bool.and_eq_true] at h
   exact Bk.fitsAll_at s r h.2 j c' v' (by simpa using hc) (by simpa using hv)
 | [], _, _, _, _, _, hc, _ => by simp at hc
 | _ :: _, [], _, _, _, _, _, hv => by simp at hv
theorem Bk.good_of {s : List Kn.C} (h : Kn.right s = true) {j : Nat} {c : Kn.C} (hc : s[j]? = some c) : c.good = true := by
 unfold Kn.right at h
 simp only [Bool.and_eq_true, List.all_eq_true] at h
 exact h.2 c (List.mem_of_getElem? hc)
theorem Bk.fits_is {c : Kn.C} (h : c.good = true) (v : Kn.V) : Kn.fits c v = Cl.is c v := by
 rw [Kn.isK_fits c v h]
 unfold Cl.is
 cases v.null <;> cases c.null <;> simp
theorem Bk.cols_at {s : List Kn.C} {g : Bool} {j : Nat} {c : Kn.C} : (Dd.cols s g)[j]? = some c ↔ (s[j]? = some c ∧ (g = true → j = 0)) := by
 unfold Dd.cols
 cases g
 ·simp
 ·rw [if_pos rfl, List.getElem?_take]
  by_cases hj : j < 1
  ·rw [if_pos hj]
   exact ⟨fun h => ⟨h, fun _ => by omega⟩, fun h => h.1⟩
  ·rw [if_neg hj]
   exact ⟨(fun h => by cases h), (fun h => by have := h.2 rfl; omega)⟩
theorem Bk.cols_len (s : List Kn.C) (g : Bool) : (Dd.cols s g).length = if g = true then min s.length 1 else s.length := by
 unfold Dd.cols
 cases g
 ·rfl
 ·rw [if_pos rfl, if_pos rfl, List.length_take]
  omega
theorem Bk.mem_col {L : List Dd.D} {j : Nat} {v : Kn.V} : v ∈ Bk.col L j ↔ ∃ d ∈ L, Bk.has j d = true ∧ v = d.row.getD j Cl.nul := by
 unfold Bk.col
 constructor
 ·intro h
  obtain ⟨d, hd, rfl⟩ := List.mem_map.1 h
  obtain ⟨h1, h2⟩ := List.mem_filter.1 hd
  exact ⟨d, h1, h2, rfl⟩
 ·rintro ⟨d, h1, h2, rfl⟩
  exact List.mem_map.2 ⟨d, List.mem_filter.2 ⟨h1, h2⟩, rfl⟩
theorem Bk.len0 (n : Nat) (b : UInt8) : Bk.Len 0 (Bk.none_ n b) := fun d hd => by
 unfold Bk.none_ at hd
 obtain ⟨i, _, rfl⟩ := List.mem_map.1 hd
 simp
end Go.Proofs.YtkhiemkekmdhgaaGreatDoor
namespace Go.Proofs.YtkhiemkekmdhgaaGreatDoor.Zn
open Go
open Kn (V cmp)
structure Zo where
 nulls : Bool
 values : Bool
 lo : V
 hi : V
abbrev Zo.val (z : Zo) : Value := .agg #[.bool z.nulls, .bool z.values, .bool z.lo.null, .int .i64 z.lo.n, .string z.lo.s, .bool z.hi.null, .int .i64 z.hi.n, .string z.hi.s]
structure As where
 op : Int
 col : Int
 v : V
abbrev As.val (a : As) : Value := .agg #[.int .i64 a.op, .int .i64 a.col, .bool a.v.null, .int .i64 a.v.n, .string a.v.s]
def zv : V := ⟨false, 0, ⟨#[]⟩⟩
def z0 : Zo := ⟨false, false, zv, zv⟩
def bare (v : V) : V := ⟨false, v.n, v.s⟩
theorem bare_of {v : V} (h : v.null = false) : bare v = v := by
 obtain ⟨a, b, c⟩ := v
 simp only at h
 subst h
 rfl
def add (z : Zo) (v : V) : Zo :=
 if v.null = true then ⟨true, z.values, z.lo, z.hi⟩
 else ⟨z.nulls, true, if z.values = true then (if cmp v z.lo < 0 then v else z.lo) else v, if z.values = true then (if cmp v z.hi > 0 then v else z.hi) else v⟩
def of (l : List V) : Zo := l.foldl add z0
def holds (a : As) (v : V) : Bool :=
 if a.op = 0 then true else if a.op = 4 then v.null else if a.op = 5 then !v.null
 else if (v.null || a.v.null) = true then false
 else if a.op = 1 then cmp v a.v == 0 else if a.op = 2 then decide (cmp v a.v < 0) else if a.op = 3 then decide (0 ≤ cmp v a.v) else false
def may (a : As) (z : Zo) : Bool :=
 if a.op = 0 then (z.nulls || z.values) else if a.op = 4 then z.nulls else if a.op = 5 then z.values
 else if (!z.values || a.v.null) = true then false
 else if a.op = 1 then (decide (cmp (bare z.lo) a.v ≤ 0) && decide (0 ≤ cmp (bare z.hi) a.v)) else if a.op = 2 then decide (cmp (bare z.lo) a.v < 0) else if a.op = 3 then decide (0 ≤ cmp (bare z.hi) a.v) else false
def ends (z : Zo) : List V := if z.values = true then [bare z.lo, bare z.hi] else []
def join (x y : Zo) : Zo := ⟨x.nulls || y.nulls, (of (ends x ++ ends y)).values, (of (ends x ++ ends y)).lo, (of (ends x ++ ends y)).hi⟩
theorem anti (a b : V) : cmp b a = -cmp a b := (Kn.cmp_fair a b b).xa
theorem self (a : V) : cmp a a = 0 := by have := anti a a; omega
theorem trans {a b c : V} (h : cmp a b ≤ 0) (k : cmp b c ≤ 0) : cmp a c ≤ 0 := (Kn.cmp_fair a b c).le h k
theorem trans_lt {a b c : V} (h : cmp a b ≤ 0) (k : cmp b c < 0) : cmp a c < 0 := by
 have f := Kn.cmp_fair a b c
 have h1 := f.le h (by omega)
 rcases Int.lt_or_eq_of_le h1 with h2 | h2
 ·exact h2
 ·have := (f.lt h (by omega) h2).2; omega
theorem lt_trans {a b c : V} (h : cmp a b < 0) (k : cmp b c ≤ 0) : cmp a c < 0 := by
 have f := Kn.cmp_fair a b c
 have h1 := f.le (by omega) k
 rcases Int.lt_or_eq_of_le h1 with h2 | h2
 ·exact h2
 ·have := (f.lt (by omega) k h2).1; omega
theorem s_inj {a b : ByteArray} (h : a.toList = b.toList) : a = b := by
 rw [ByteArray.toList_eq, ByteArray.toList_eq] at h
 obtain ⟨a⟩ := a
 obtain ⟨b⟩ := b
 congr 1
 exact Array.toList_inj.1 h
theorem cmp_eq {a b : V} (ha : a.null = false) (hb : b.null = false) (h : cmp a b = 0) : a = b := by
 obtain ⟨an, ai, sa⟩ := a
 obtain ⟨bn, bi, sb⟩ := b
 simp only at ha hb
 subst ha hb
 have h2 := Kn.cmp_zero ⟨false, ai, sa⟩ ⟨false, bi, sb⟩
 rw [h] at h2
 simp only [Kn.same, Bool.and_false, Bool.not_false, Bool.true_and, Bool.false_or, beq_self_eq_true] at h2
 have h3 := h2.symm
 rw [Bool.and_eq_true, beq_iff_eq, beq_iff_eq] at h3
 rw [h3.1, s_inj h3.2]
structure Inv (l : List V) (z : Zo) : Prop where
 nulls : z.nulls = true ↔ ∃ v ∈ l, v.null = true
 values : z.values = true ↔ ∃ v ∈ l, v.null = false
 zero : z.values = false → z.lo = zv ∧ z.hi = zv
 lo : z.values = true → z.lo ∈ l ∧ z.lo.null = false ∧ ∀ v ∈ l, v.null = false → cmp z.lo v ≤ 0
 hi : z.values = true → z.hi ∈ l ∧ z.hi.null = false ∧ ∀ v ∈ l, v.null = false → cmp v z.hi ≤ 0
theorem Inv.nil : Inv [] z0 := ⟨by simp [z0], by simp [z0], fun _ => ⟨rfl, rfl⟩, (fun h => by cases h), (fun h => by cases h)⟩
theorem Inv.add {l : List V} {z : Zo} (h : Inv l z) (v : V) : Inv (l ++ [v]) (add z v) := by
 unfold Zn.add
 cases hv : v.null
 ·rw [if_neg (by decide)]
  refine ⟨?_, ?_, (fun h => by cases h), fun _ => ?_, fun _ => ?_⟩
  ·show z.nulls = true ↔ _
   rw [h.nulls]
   constructor
   ·rintro ⟨x, hx, hn⟩; exact ⟨x, List.mem_append_left _ hx, hn⟩
   ·rintro ⟨x, hx, hn⟩
    rcases List.mem_append.1 hx with hx | hx
    ·exact ⟨x, hx, hn⟩
    ·rw [List.mem_singleton] at hx
     subst hx
     rw [hv] at hn
     cases hn
  ·show true = true ↔ _
   exact ⟨fun _ => ⟨v, List.mem_append_right _ (List.mem_singleton.2 rfl), hv⟩, fun _ => rfl⟩
  ·show (if z.values = true then (if cmp v z.lo < 0 then v else z.lo) else v) ∈ _ ∧ _
   cases hz : z.values
   ·rw [if_neg (by decide)]
    refine ⟨List.mem_append_right _ (List.mem_singleton.2 rfl), hv, fun x hx hn => ?_⟩
    rcases List.mem_append.1 hx with hx | hx
    ·have := h.values.2 ⟨x, hx, hn⟩
     rw [hz] at this
     cases this
    ·rw [List.mem_singleton] at hx
     subst hx
     rw [self]
     exact Int.le_refl _
   ·obtain ⟨k1, k2, k3⟩ := h.lo hz
    rw [if_pos rfl]
    by_cases hc : cmp v z.lo < 0
    ·rw [if_pos hc]
     refine ⟨List.mem_append_right _ (List.mem_singleton.2 rfl), hv, fun x hx hn => ?_⟩
     rcases List.mem_append.1 hx with hx | hx
     ·exact Int.le_of_lt (lt_trans hc (k3 x hx hn))
     ·rw [List.mem_singleton] at hx
      subst hx
      rw [self]
      exact Int.le_refl _
    ·rw [if_neg hc]
     refine ⟨List.mem_append_left _ k1, k2, fun x hx hn => ?_⟩
     rcases List.mem_append.1 hx with hx | hx
     ·exact k3 x hx hn
     ·rw [List.mem_singleton] at hx
      subst hx
      have := anti x z.lo
      show cmp z.lo x ≤ 0
      omega
  ·show (if z.values = true then (if cmp v z.hi > 0 then v else z.hi) else v) ∈ _ ∧ _
   cases hz : z.values
   ·rw [if_neg (by decide)]
    refine ⟨List.mem_append_right _ (List.mem_singleton.2 rfl), hv, fun x hx hn => ?_⟩
    rcases List.mem_append.1 hx with hx | hx
    ·have := h.values.2 ⟨x, hx, hn⟩
     rw [hz] at this
     cases this
    ·rw [List.mem_singleton] at hx
     subst hx
     rw [self]
     exact Int.le_refl _
   ·obtain ⟨k1, k2, k3⟩ := h.hi hz
    rw [if_pos rfl]
    by_cases hc : cmp v z.hi > 0
    ·rw [if_pos hc]
     refine ⟨List.mem_append_right _ (List.mem_singleton.2 rfl), hv, fun x hx hn => ?_⟩
     rcases List.mem_append.1 hx with hx | hx
     ·have := anti v z.hi
      exact trans (k3 x hx hn) (show cmp z.hi v ≤ 0 by omega)
     ·rw [List.mem_singleton] at hx
      subst hx
      rw [self]
      exact Int.le_refl _
    ·rw [if_neg hc]
     refine ⟨List.mem_append_left _ k1, k2, fun x hx hn => ?_⟩
     rcases List.mem_append.1 hx with hx | hx
     ·exact k3 x hx hn
     ·rw [List.mem_singleton] at hx
      subst hx
      show cmp x z.hi ≤ 0
      omega
 ·rw [if_pos rfl]
  have hval : (∃ x ∈ l ++ [v], x.null = false) ↔ ∃ x ∈ l, x.null = false := by
   constructor
   ·rintro ⟨x, hx, hn⟩
    rcases List.mem_append.1 hx with hx | hx
    ·exact ⟨x, hx, hn⟩
    ·rw [List.mem_singleton] at hx
     subst hx
     rw [hv] at hn
     cases hn
   ·rintro ⟨x, hx, hn⟩; exact ⟨x, List.mem_append_left _ hx, hn⟩
  refine ⟨?_, ?_, fun h0 => h.zero h0, fun hz => ?_, fun hz => ?_⟩
  ·show true = true ↔ _
   exact ⟨fun _ => ⟨v, List.mem_append_right _ (List.mem_singleton.2 rfl), hv⟩, fun _ => rfl⟩
  ·show z.values = true ↔ _
   rw [hval, h.values]
  ·obtain ⟨k1, k2, k3⟩ := h.lo hz
   refine ⟨List.mem_append_left _ k1, k2, fun x hx hn => ?_⟩
   rcases List.mem_append.1 hx with hx | hx
   ·exact k3 x hx hn
   ·rw [List.mem_singleton] at hx
    subst hx
    rw [hv] at hn
    cases hn
  ·obtain ⟨k1, k2, k3⟩ := h.hi hz
   refine ⟨List.mem_append_left _ k1, k2, fun x hx hn => ?_⟩
   rcases List.mem_append.1 hx with hx | hx
   ·exact k3 x hx hn
   ·rw [List.mem_singleton] at hx
    subst hx
    rw [hv] at hn
    cases hn
theorem Inv.more : ∀ (l m : List V) (z : Zo), Inv m z → Inv (m ++ l) (l.foldl Zn.add z)
 | [], m, z, h => by rw [List.append_nil]; exact h
 | v :: l, m, z, h => by
   have := Inv.more l (m ++ [v]) (Zn.add z v) (h.add v)
   rw [List.append_assoc] at this
   exact this
theorem of_inv (l : List V) : Inv l (of l) := by
 have := Inv.more l [] z0 Inv.nil
 rw [List.nil_append] at this
 exact this
theorem bool_iff {a b : Bool} (h : a = true ↔ b = true) : a = b := by cases a <;> cases b <;> simp_all
theorem Inv.one {l m : List V} {z y : Zo} (h : Inv l z) (k : Inv m y) (he : ∀ v, v ∈ l ↔ v ∈ m) : z = y := by
 have h1 : z.nulls = y.nulls := bool_iff (by rw [h.nulls, k.nulls]; simp only [he])
 have h2 : z.values = y.values := bool_iff (by rw [h.values, k.values]; simp only [he])
 obtain ⟨zn, zw, zl, zh⟩ := z
 obtain ⟨yn, yw, yl, yh⟩ := y
 simp only at h1 h2
 subst h1 h2
 cases zw
 ·obtain ⟨rfl, rfl⟩ := h.zero rfl
  obtain ⟨e1, e2⟩ := k.zero rfl
  simp only at e1 e2
  rw [e1, e2]
 ·obtain ⟨a1, a2, a3⟩ := h.lo rfl
  obtain ⟨b1, b2, b3⟩ := k.lo rfl
  obtain ⟨c1, c2, c3⟩ := h.hi rfl
  obtain ⟨d1, d2, d3⟩ := k.hi rfl
  simp only at a1 a2 a3 b1 b2 b3 c1 c2 c3 d1 d2 d3
  have e1 : zl = yl := cmp_eq a2 b2 (by have := a3 yl ((he _).2 b1) b2; have := b3 zl ((he _).1 a1) a2; have := anti zl yl; omega)
  have e2 : zh = yh := cmp_eq c2 d2 (by have := c3 yh ((he _).2 d1) d2; have := d3 zh ((he _).1 c1) c2; have := anti zh yh; omega)
  rw [e1, e2]
theorem safe (a : As) (l : List V) : ((!(l.any (holds a)) || may a (of l)) && (!(may a (of l)) || l.any (holds a) || a.op == 1)) = true := by
 have h := of_inv l
 generalize of l = z at h ⊢
 have hany : ∀ p : V → Bool, l.any p = true ↔ ∃ v ∈ l, p v = true := fun p => List.any_eq_true
 have key : (l.any (holds a) = true → may a z = true) ∧ (may a z = true → l.any (holds a) = true ∨ (a.op == 1) = true) := by
  rw [hany]
  unfold holds may
  by_cases h0 : a.op = 0
  ·simp only [if_pos h0]
   rw [Bool.or_eq_true, h.nulls, h.values]
   constructor
   ·rintro ⟨v, hv, _⟩
    cases hn : v.null
    ·exact .inr ⟨v, hv, hn⟩
    ·exact .inl ⟨v, hv, hn⟩
   ·rintro (⟨v, hv, _⟩ | ⟨v, hv, _⟩) <;> exact .inl ⟨v, hv, trivial⟩
  simp only [if_neg h0]
  by_cases h4 : a.op = 4
  ·simp only [if_pos h4]
   rw [h.nulls]
   exact ⟨id, .inl⟩
  simp only [if_neg h4]
  by_cases h5 : a.op = 5
  ·simp only [if_pos h5]
   rw [h.values]
   simp only [Bool.not_eq_true']
   exact ⟨id, .inl⟩
  simp only [if_neg h5]
  cases hn : a.v.null
  ·simp only [Bool.or_false]
   cases hz : z.values
   ·have hall : ∀ v ∈ l, v.null = true := fun v hv => by
     cases hvn : v.null
     ·have := h.values.2 ⟨v, hv, hvn⟩
      rw [hz] at this
      cases this
     ·rfl
    rw [if_pos (by decide)]
    refine ⟨?_, (fun h => by cases h)⟩
    rintro ⟨v, hv, h2⟩
    rw [if_pos (hall v hv)] at h2
    exact h2
   ·obtain ⟨l1, l2, l3⟩ := h.lo hz
    obtain ⟨u1, u2, u3⟩ := h.hi hz
    rw [if_neg (by decide), bare_of l2, bare_of u2]
    by_cases h1 : a.op = 1
    ·simp only [if_pos h1]
     refine ⟨?_, fun _ => .inr (by rw [h1]; rfl)⟩
     rintro ⟨v, hv, h2⟩
     cases hvn : v.null
     ·rw [hvn, if_neg (by decide), beq_iff_eq] at h2
      have k1 := trans (l3 v hv hvn) (show cmp v a.v ≤ 0 by omega)
      have k2 := trans (show cmp a.v v ≤ 0 by have := anti v a.v; omega) (u3 v hv hvn)
      have k3 := anti a.v z.hi
      rw [Bool.and_eq_true, decide_eq_true_eq, decide_eq_true_eq]
      omega
     ·rw [hvn, if_pos rfl] at h2
      cases h2
    simp only [if_neg h1]
    by_cases h2 : a.op = 2
    ·simp only [if_pos h2]
     rw [decide_eq_true_eq]
     constructor
     ·rintro ⟨v, hv, h3⟩
      cases hvn : v.null
      ·rw [hvn, if_neg (by decide), decide_eq_true_eq] at h3
       exact trans_lt (l3 v hv hvn) h3
      ·rw [hvn, if_pos rfl] at h3
       cases h3
     ·intro h3
      refine .inl ⟨z.lo, l1, ?_⟩
      rw [l2, if_neg (by decide), decide_eq_true_eq]
      exact h3
    simp only [if_neg h2]
    by_cases h3 : a.op = 3
    ·simp only [if_pos h3]
     rw [decide_eq_true_eq]
     constructor
     ·rintro ⟨v, hv, h4⟩
      cases hvn : v.null
      ·rw [hvn, if_neg (by decide), decide_eq_true_eq] at h4
       have k2 := trans (show cmp a.v v ≤ 0 by have := anti v a.v; omega) (u3 v hv hvn)
       have k3 := anti a.v z.hi
       omega
      ·rw [hvn, if_pos rfl] at h4
       cases h4
     ·intro h4
      refine .inl ⟨z.hi, u1, ?_⟩
      rw [u2, if_neg (by decide), decide_eq_true_eq]
      exact h4
    simp only [if_neg h3]
    refine ⟨?_, (fun h => by cases h)⟩
    rintro ⟨v, hv, h4⟩
    split at h4 <;> exact h4
  ·simp only [Bool.or_true, if_true]
   refine ⟨?_, (fun h => by cases h)⟩
   rintro ⟨v, hv, h2⟩
   exact h2
 rw [Bool.and_eq_true, Bool.or_eq_true, Bool.or_eq_true, Bool.or_eq_true, Bool.not_eq_true', Bool.not_eq_true']
 obtain ⟨k1, k2⟩ := key
 refine ⟨?_, ?_⟩
 ·cases hA : l.any (holds a)
  ·exact .inl rfl
  ·exact .inr (k1 hA)
 ·cases hM : may a z
  ·exact .inl (.inl rfl)
  ·rcases k2 hM with h | h
   ·exact .inl (.inr h)
   ·exact .inr h
end Go.Proofs.YtkhiemkekmdhgaaGreatDoor.Zn
namespace Go.Proofs.YtkhiemkekmdhgaaGreatDoor
open Go.RowKit
structure Kn.R where
 from_ : Bool
 til : Bool
 lo : Kn.V
 hi : Kn.V
abbrev Kn.R.val (r : Kn.R) : Value := .agg #[.bool r.from_, .bool r.til, .bool r.lo.null, .int .i64 r.lo.n, .string r.lo.s, .bool r.hi.null, .int .i64 r.hi.n, .string r.hi.s]
structure Kn.RAt (w : World) (b : Nat) (r : Kn.R) : Prop where
 c0 : w.cell? ⟨b, 0, none⟩ = some (.bool r.from_)
 c1 : w.cell? ⟨b, 1, none⟩ = some (.bool r.til)
 lo : Kn.At w b 2 r.lo
 hi : Kn.At w b 5 r.hi
theorem Kn.RAt.later {w w' : World} {b : Nat} {r : Kn.R} (h : Kn.RAt w b r) (g : Below w.heap.size w w') : Kn.RAt w' b r :=
 ⟨(g.cell (p := ⟨b, 0, none⟩) h.lo.lt).trans h.c0, (g.cell (p := ⟨b, 1, none⟩) h.lo.lt).trans h.c1, h.lo.later g, h.hi.later g⟩
theorem Kn.RAt.new (w : World) (r : Kn.R) (t : TypeId) : Kn.RAt (w.alloc (.cells #[.bool r.from_, .bool r.til, .bool r.lo.null, .int .i64 r.lo.n, .string r.lo.s, .bool r.hi.null, .int .i64 r.hi.n, .string r.hi.s] t)) w.heap.size r :=
 ⟨Kn.cell_new w _ t 0 _ rfl, Kn.cell_new w _ t 1 _ rfl, ⟨Kn.cell_new w _ t 2 _ rfl, Kn.cell_new w _ t 3 _ rfl, Kn.cell_new w _ t 4 _ rfl⟩, ⟨Kn.cell_new w _ t 5 _ rfl, Kn.cell_new w _ t 6 _ rfl, Kn.cell_new w _ t 7 _ rfl⟩⟩
theorem Kn.RAt.alloc {w : World} {b : Nat} {r : Kn.R} (h : Kn.RAt w b r) (x : Obj) : Kn.RAt (w.alloc x) b r := h.later ((Below.refl _ w).alloc (Nat.le_refl _) x)
def Kn.inR (r : Kn.R) (k : Kn.V) : Bool := (!r.from_ || !decide (Kn.cmp k r.lo < 0)) && (!r.til || decide (Kn.cmp k r.hi < 0))
end Go.Proofs.YtkhiemkekmdhgaaGreatDoor
namespace Go.Proofs.YtkhiemkekmdhgaaGreatDoor
open Go
open Ty (encU U64 I64)
def Rn.nb (n : Nat) : Nat := (n + 7) / 8
def Rn.bk (L : List Dd.D) (i : Nat) : List Dd.D := (L.drop (8 * i)).take 8
def Rn.blocks (L : List Dd.D) : List (List Dd.D) := (List.range (Rn.nb L.length)).map (Rn.bk L)
theorem Rn.bk_mem {L : List Dd.D} {i : Nat} {d : Dd.D} (h : d ∈ Rn.bk L i) : d ∈ L := List.mem_of_mem_drop (List.mem_of_mem_take h)
def Rn.index (s : List Kn.C) (L : List Dd.D) : List UInt8 := encU (Rn.nb L.length) ++ (Rn.blocks L).flatMap fun b => encU (Fr.frm (Bk.enc s b)).length
def Rn.texts (s : List Kn.C) (L : List Dd.D) : List Fr.Str := (Rn.blocks L).map (Bk.enc s) ++ [Rn.index s L]
def Rn.enc (s : List Kn.C) (L : List Dd.D) : List UInt8 := (Rn.texts s L).flatMap Fr.frm
def Rn.wE (s : List Kn.C) (L : List Dd.D) : Int :=
 if Kn.right s = true then (if L.length = 0 then 1 else if Bk.fitsE s L = 0 then (if 1048576 < (Rn.enc s L).length then 3 else 0) else Bk.fitsE s L) else 4
def Rn.wS (s : List Kn.C) (L : List Dd.D) : List UInt8 := if Rn.wE s L = 0 then Rn.enc s L else []
def Rn.wV (s : List Kn.C) (L : List Dd.D) : Value := .tuple #[.string (Ty.S (Rn.wS s L)), .int .i64 (Rn.wE s L)]
theorem Rn.asc {L : List Dd.D} (h : Bk.sorted L = true) : ∀ (j i : Nat), i < j → j < L.length → Kn.cmp (Bk.key (L.getD i Bk.nod)) (Bk.key (L.getD j Bk.nod)) < 0
 | 0, i, hij, _ => by omega
 | j + 1, i, hij, hj => by
   unfold Bk.sorted at h
   have hst := List.all_eq_true.1 h (j + 1) (List.mem_range.2 hj)
   unfold Bk.step at hst
   rw [Bool.and_eq_true, Bool.or_eq_true] at hst
   have h1 : Kn.cmp (Bk.key (L.getD j Bk.nod)) (Bk.key (L.getD (j + 1) Bk.nod)) < 0 := by
    rcases hst.2 with h2 | h2
    ·rw [beq_iff_eq] at h2; omega
    ·rw [Nat.add_sub_cancel] at h2
     exact of_decide_eq_true h2
   rcases Nat.lt_or_ge i j with h2 | h2
   ·have ih := Rn.asc (by unfold Bk.sorted; exact h) j i h2 (by omega)
    exact Zn.lt_trans ih (by omega)
   ·obtain rfl : i = j := by omega
    exact h1
def Rn.get (L : List Dd.D) (k : Kn.V) : Option Dd.D := L.find? fun d => Kn.cmp (Bk.key d) k == 0
def Rn.in_ (L : List Dd.D) (r : Kn.R) : List Dd.D := L.filter fun d => Kn.inR r (Bk.key d)
def Rn.zone (s : List Kn.C) (L : List Dd.D) (b c : Int) : Zn.Zo := if 0 ≤ b ∧ b < (Rn.nb L.length : Int) ∧ 0 ≤ c ∧ c < (s.length : Int) then Zn.of (Bk.col (Rn.bk L b.toNat) c.toNat) else Zn.z0
def Rn.holds (r : Kn.R) (a : Zn.As) (d : Dd.D) : Bool := !d.gone && Kn.inR r (Bk.key d) && decide (0 ≤ a.col ∧ a.col < (d.row.length : Int)) && Zn.holds a (d.row.getD a.col.toNat Cl.nul)
def Rn.hold (L : List Dd.D) (r : Kn.R) (a : Zn.As) : List (List Kn.V) := (L.filter (Rn.holds r a)).map Dd.D.row
def Rn.meets (z : Zn.Zo) (r : Kn.R) : Bool := (!r.from_ || !decide (Kn.cmp z.hi r.lo < 0)) && (!r.til || decide (Kn.cmp z.lo r.hi < 0))
def Rn.look (s : List Kn.C) (L : List Dd.D) (r : Kn.R) (a : Zn.As) (i : Nat) : Bool := decide (0 ≤ a.col ∧ a.col < (s.length : Int)) && Rn.meets (Rn.zone s L i 0) r && Zn.may a (Rn.zone s L i a.col)
def Rn.looked (s : List Kn.C) (L : List Dd.D) (r : Kn.R) (a : Zn.As) : Nat := ((List.range (Rn.nb L.length)).filter (Rn.look s L r a)).length
theorem Rn.skip {s : List Kn.C} {L : List Dd.D} (hL : ∀ d ∈ L, Dd.fitE s d = 0) (hr : Kn.right s = true) {r : Kn.R} {a : Zn.As} {i : Nat} (hi : i < Rn.nb L.length) (h : Rn.look s L r a i = false) : Rn.hold (Rn.bk L i) r a = [] := by
 unfold Rn.hold
 rw [List.map_eq_nil_iff, List.filter_eq_nil_iff]
 intro d hd hh
 have hdL := Rn.bk_mem hd
 obtain ⟨_, hlen, hall⟩ := Dd.fitE_0 (hL d hdL)
 unfold Rn.holds at hh
 simp only [Bool.and_eq_true, decide_eq_true_iff, Bool.not_eq_true'] at hh
 obtain ⟨⟨⟨hg, hin⟩, hc0, hc1⟩, hho⟩ := hh
 rw [hg] at hlen hall
 rw [Bk.cols_len, if_neg (by decide)] at hlen
 have hcs : a.col < (s.length : Int) := by omega
 have hs1 := (Kn.right_len hr).1
 unfold Rn.look at h
 rw [decide_eq_true (show 0 ≤ a.col ∧ a.col < (s.length : Int) from ⟨hc0, hcs⟩), Bool.true_and] at h
 have hz0 : Rn.zone s L i 0 = Zn.of (Bk.col (Rn.bk L i) 0) := by
  unfold Rn.zone
  rw [if_pos (by omega)]
  simp
 have hz1 : Rn.zone s L i a.col = Zn.of (Bk.col (Rn.bk L i) a.col.toNat) := by
  unfold Rn.zone
  rw [if_pos (by omega)]
  simp
 rw [hz0, hz1] at h
 have hk0 : Bk.key d ∈ Bk.col (Rn.bk L i) 0 := Bk.mem_col.2 ⟨d, hd, rfl, by
  unfold Bk.key
  cases hrow : d.row with
  | nil => rw [hrow] at hlen; simp at hlen; omega
  | cons x l => rfl⟩
 have hkn : (Bk.key d).null = false := by
  have hc := List.getElem?_eq_getElem (l := s) (i := 0) (by omega)
  have hv : d.row[0]? = some (Bk.key d) := by
   unfold Bk.key
   cases hrow : d.row with
   | nil => rw [hrow] at hlen; simp at hlen; omega
   | cons x l => rfl
  have hf := Bk.fitsAll_at _ _ hall 0 s[0] (Bk.key d) hc hv
  have hg0 := Bk.good_of hr hc
  rw [Bk.fits_is hg0] at hf
  have hnul : (s[0]'(by omega)).null = false := by
   have h9 : ∀ (t : List Kn.C) (h0 : 0 < t.length), Kn.right t = true → (t[0]'h0).null = false := fun t h0 ht => by
    obtain ⟨x, u, rfl, h1, _⟩ := Kn.right_head ht
    exact h1
   exact h9 s (by omega) hr
  unfold Cl.is at hf
  cases hn : (Bk.key d).null
  ·rfl
  ·rw [hn, hnul] at hf
   simp at hf
 have inv0 := Zn.of_inv (Bk.col (Rn.bk L i) 0)
 have hval : (Zn.of (Bk.col (Rn.bk L i) 0)).values = true := inv0.values.2 ⟨_, hk0, hkn⟩
 have hlo := (inv0.lo hval).2.2 _ hk0 hkn
 have hhi := (inv0.hi hval).2.2 _ hk0 hkn
 generalize Zn.of (Bk.col (Rn.bk L i) 0) = z at h hlo hhi
 have hm : Rn.meets z r = true := by
  unfold Kn.inR at hin
  unfold Rn.meets
  simp only [Bool.and_eq_true, Bool.or_eq_true, Bool.not_eq_true', decide_eq_true_iff, decide_eq_false_iff_not] at hin ⊢
  refine ⟨hin.1.imp id fun h1 h2 => h1 (Zn.trans_lt hhi h2), hin.2.imp id fun h1 => Zn.trans_lt hlo h1⟩
 rw [hm, Bool.true_and] at h
 have hsafe := Zn.safe a (Bk.col (Rn.bk L i) a.col.toNat)
 rw [h] at hsafe
 have hany : (Bk.col (Rn.bk L i) a.col.toNat).any (Zn.holds a) = true := List.any_eq_true.2 ⟨_, Bk.mem_col.2 ⟨d, hd, by unfold Bk.has; rw [hg]; simp, rfl⟩, hho⟩
 rw [hany] at hsafe
 simp at hsafe
end Go.Proofs.YtkhiemkekmdhgaaGreatDoor
namespace Go.Proofs.YtkhiemkekmdhgaaGreatDoor
open Go.RowKit
structure Bk.Ds (w : World) (v : Value) (L : List Dd.D) : Prop where
 is : ∃ a c, v = .slice a L.length c ∧ L.length ≤ c ∧ c ≤ 9223372036854775807 ∧ (L = [] ∨ ∃ b o, a = some ⟨b, o, none⟩ ∧ b < w.heap.size ∧
  ∀ i x, L[i]? = some x → ∃ u, w.cell? ⟨b, o + i * 2, none⟩ = some (.bool x.gone) ∧ w.cell? ⟨b, o + i * 2 + 1, none⟩ = some u ∧ Kn.Vals w u x.row)
theorem Bk.Ds.later {w w' : World} {v : Value} {L : List Dd.D} (h : Bk.Ds w v L) (g : Below w.heap.size w w') : Bk.Ds w' v L := by
 obtain ⟨a, c, hv, h1, h2, h⟩ := h
 refine ⟨a, c, hv, h1, h2, ?_⟩
 rcases h with h | ⟨b, o, ha, hb, h⟩
 ·exact .inl h
 ·refine .inr ⟨b, o, ha, Nat.lt_of_lt_of_le hb g.size, fun i x hx => ?_⟩
  obtain ⟨u, c0, c1, hu⟩ := h i x hx
  exact ⟨u, (g.cell (p := ⟨b, o + i * 2, none⟩) hb).trans c0, (g.cell (p := ⟨b, o + i * 2 + 1, none⟩) hb).trans c1, hu.later g⟩
def Bk.Zs (L : List Dd.D) : Prop := ∀ d ∈ L, ∀ v ∈ d.row, Kn.Z v
theorem Bk.below_reg {w w' : World} (h : ∃ p : Regrown, w' = Sort.grow (redrawn w p.d) p.os) : Below w.heap.size w w' := by
 obtain ⟨p, rfl⟩ := h
 exact below_regrown w p.d p.os
end Go.Proofs.YtkhiemkekmdhgaaGreatDoor
