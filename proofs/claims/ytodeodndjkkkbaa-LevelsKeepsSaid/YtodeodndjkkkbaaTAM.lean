import Derived.Test.YtodeodndjkkkbaaTAL
import Derived.Test.YtodeodndjkkkbaaTAI
import Derived.Test.YtodeodndjkkkbaaTAA
namespace Go.Proofs.Ytodeodndjkkkbaa
open Go
open Ty (num txt encU U64 I64)
open Ig (rest)
open Tx (encT)
theorem Bk.fitsAll_at : ∀ (s : List Kn.C) (r : List Kn.V), Kn.fitsAll s r = true → ∀ (j : Nat) (c : Kn.C) (v : Kn.V), s[j]? = some c → r[j]? = some v → Kn.fits c v = true
 | c :: s, v :: r, h, 0, c', v', hc, hv => by
   obtain rfl : c = c' := by simpa using hc
   obtain rfl : v = v' := by simpa using hv
   simp only [Kn.fitsAll, Bool.and_eq_true] at h
   exact h.1
 | c :: s, v :: r, h, j + 1, c', v', hc, hv => by
   simp only [Kn.fitsAll, Bool.and_eq_true] at h
   exact Bk.fitsAll_at s r h.2 j c' v' (by simpa using hc) (by simpa using hv)
 | [], _, _, _, _, _, hc, _ => by simp at hc
 | _ :: _, [], _, _, _, _, _, hv => by simp at hv
theorem Bk.good_of {s : List Kn.C} (h : Kn.right s = true) {j : Nat} {c : Kn.C} (hc : s[j]? = some c) : c.good = true := by
 unfold Kn.right at h
 simp only [Bool.and_eq_true, List.all_eq_true] at h
 exact h.2 c (List.mem_of_getElem? hc)
theorem Bk.fits_is {c : Kn.C} (h : c.good = true) (v : Kn.V) : Kn.fits c v = Cl.is c v := by
 rw [Kn.isK_fits c v h]
 unfold Cl.is
 cases v.null <;> cases c.null <;> simp
theorem Bk.cols_len (s : List Kn.C) (g : Bool) : (Dd.cols s g).length = if g = true then min s.length 1 else s.length := by
 unfold Dd.cols
 cases g
 ·rfl
 ·rw [if_pos rfl, if_pos rfl, List.length_take]
  omega
theorem Bk.mem_col {L : List Dd.D} {j : Nat} {v : Kn.V} : v ∈ Bk.col L j ↔ ∃ d ∈ L, Bk.has j d = true ∧ v = d.row.getD j Cl.nul := by
 unfold Bk.col
 constructor
 ·intro h
  obtain ⟨d, hd, rfl⟩ := List.mem_map.1 h
  obtain ⟨h1, h2⟩ := List.mem_filter.1 hd
  exact ⟨d, h1, h2, rfl⟩
 ·rintro ⟨d, h1, h2, rfl⟩
  exact List.mem_map.2 ⟨d, List.mem_filter.2 ⟨h1, h2⟩, rfl⟩
theorem Bk.len0 (n : Nat) (b : UInt8) : Bk.Len 0 (Bk.none_ n b) := fun d hd => by
 unfold Bk.none_ at hd
 obtain ⟨i, _, rfl⟩ := List.mem_map.1 hd
 simp
end Go.Proofs.Ytodeodndjkkkbaa
namespace Go.Proofs.Ytodeodndjkkkbaa.Fr
open Go
def P : Nat := 2197175160
def T (r : Nat) : Nat := (r / 2) ^^^ (if r % 2 = 1 then P else 0)
def Tn : Nat → Nat → Nat
 | 0, r => r
 | k + 1, r => Tn k (T r)
def reg : Nat → List UInt8 → Nat
 | r, [] => r
 | r, b :: l => reg (Tn 8 (r ^^^ b.toNat)) l
def val : List UInt8 → Nat
 | [] => 0
 | b :: l => 256 * val l + b.toNat
def ones : Nat := 4294967295
def sum (l : List UInt8) : Nat := reg ones l ^^^ ones
end Go.Proofs.Ytodeodndjkkkbaa.Fr
namespace Go.Proofs.Ytodeodndjkkkbaa.Fr
open Go
abbrev Str := List UInt8
def four (n : Nat) : List UInt8 := [UInt8.ofNat (n % 256), UInt8.ofNat (n / 256 % 256), UInt8.ofNat (n / 65536 % 256), UInt8.ofNat (n / 16777216 % 256)]
def frm (t : Str) : List UInt8 := four t.length ++ (t ++ four (sum t))
def scanF : Nat → List UInt8 → Nat × List Str × Nat
 | 0, _ => (0, [], 0)
 | f + 1, l =>
   if l.length < 4 then (0, [], 0)
   else if 1048576 < val (l.take 4) then (8, [], 0)
   else if l.length < val (l.take 4) + 8 then (0, [], 0)
   else if val ((l.drop (4 + val (l.take 4))).take 4) ≠ sum ((l.drop 4).take (val (l.take 4))) then (8, [], 0)
   else if (scanF f (l.drop (val (l.take 4) + 8))).1 ≠ 0 then (8, [], 0)
   else (0, (l.drop 4).take (val (l.take 4)) :: (scanF f (l.drop (val (l.take 4) + 8))).2.1, val (l.take 4) + 8 + (scanF f (l.drop (val (l.take 4) + 8))).2.2)
def scan (l : List UInt8) : Nat × List Str × Nat := scanF (l.length + 1) l
def more (t : Str) (q : Nat × List Str × Nat) : Nat × List Str × Nat := if q.1 ≠ 0 then (8, [], 0) else (0, t :: q.2.1, t.length + 8 + q.2.2)
def size (L : List Str) : Nat := (L.map fun t => t.length + 8).sum
def whole : List Str → Nat → Nat
 | [], _ => 0
 | t :: L, k => if t.length + 8 ≤ k then whole L (k - (t.length + 8)) + 1 else 0
def both (a : List UInt8) (p q : Nat × List Str × Nat) : Nat × List Str × Nat := if p.1 ≠ 0 then (8, [], 0) else if q.1 ≠ 0 then (8, [], 0) else (0, p.2.1 ++ q.2.1, a.length + q.2.2)
end Go.Proofs.Ytodeodndjkkkbaa.Fr
namespace Go.Proofs.Ytodeodndjkkkbaa.Zn
open Go
open Kn (V cmp)
structure Zo where
 nulls : Bool
 values : Bool
 lo : V
 hi : V
abbrev Zo.val (z : Zo) : Value := .agg #[.bool z.nulls, .bool z.values, .bool z.lo.null, .int .i64 z.lo.n, .string z.lo.s, .bool z.hi.null, .int .i64 z.hi.n, .string z.hi.s]
structure As where
 op : Int
 col : Int
 v : V
abbrev As.val (a : As) : Value := .agg #[.int .i64 a.op, .int .i64 a.col, .bool a.v.null, .int .i64 a.v.n, .string a.v.s]
def zv : V := ⟨false, 0, ⟨#[]⟩⟩
def z0 : Zo := ⟨false, false, zv, zv⟩
def bare (v : V) : V := ⟨false, v.n, v.s⟩
theorem bare_of {v : V} (h : v.null = false) : bare v = v := by
 obtain ⟨a, b, c⟩ := v
 simp only at h
 subst h
 rfl
def add (z : Zo) (v : V) : Zo :=
 if v.null = true then ⟨true, z.values, z.lo, z.hi⟩
 else ⟨z.nulls, true, if z.values = true then (if cmp v z.lo < 0 then v else z.lo) else v, if z.values = true then (if cmp v z.hi > 0 then v else z.hi) else v⟩
def of (l : List V) : Zo := l.foldl add z0
def holds (a : As) (v : V) : Bool :=
 if a.op = 0 then true else if a.op = 4 then v.null else if a.op = 5 then !v.null
 else if (v.null || a.v.null) = true then false
 else if a.op = 1 then cmp v a.v == 0 else if a.op = 2 then decide (cmp v a.v < 0) else if a.op = 3 then decide (0 ≤ cmp v a.v) else false
def may (a : As) (z : Zo) : Bool :=
 if a.op = 0 then (z.nulls || z.values) else if a.op = 4 then z.nulls else if a.op = 5 then z.values
 else if (!z.values || a.v.null) = true then false
 else if a.op = 1 then (decide (cmp (bare z.lo) a.v ≤ 0) && decide (0 ≤ cmp (bare z.hi) a.v)) else if a.op = 2 then decide (cmp (bare z.lo) a.v < 0) else if a.op = 3 then decide (0 ≤ cmp (bare z.hi) a.v) else false
def ends (z : Zo) : List V := if z.values = true then [bare z.lo, bare z.hi] else []
def join (x y : Zo) : Zo := ⟨x.nulls || y.nulls, (of (ends x ++ ends y)).values, (of (ends x ++ ends y)).lo, (of (ends x ++ ends y)).hi⟩
theorem anti (a b : V) : cmp b a = -cmp a b := (Kn.cmp_fair a b b).xa
theorem self (a : V) : cmp a a = 0 := by have := anti a a; omega
theorem trans {a b c : V} (h : cmp a b ≤ 0) (k : cmp b c ≤ 0) : cmp a c ≤ 0 := (Kn.cmp_fair a b c).le h k
theorem trans_lt {a b c : V} (h : cmp a b ≤ 0) (k : cmp b c < 0) : cmp a c < 0 := by
 have f := Kn.cmp_fair a b c
 have h1 := f.le h (by omega)
 rcases Int.lt_or_eq_of_le h1 with h2 | h2
 ·exact h2
 ·have := (f.lt h (by omega) h2).2; omega
theorem lt_trans {a b c : V} (h : cmp a b < 0) (k : cmp b c ≤ 0) : cmp a c < 0 := by
 have f := Kn.cmp_fair a b c
 have h1 := f.le (by omega) k
 rcases Int.lt_or_eq_of_le h1 with h2 | h2
 ·exact h2
 ·have := (f.lt (by omega) k h2).1; omega
theorem s_inj {a b : ByteArray} (h : a.toList = b.toList) : a = b := by
 rw [ByteArray.toList_eq, ByteArray.toList_eq] at h
 obtain ⟨a⟩ := a
 obtain ⟨b⟩ := b
 congr 1
 exact Array.toList_inj.1 h
theorem cmp_eq {a b : V} (ha : a.null = false) (hb : b.null = false) (h : cmp a b = 0) : a = b := by
 obtain ⟨an, ai, sa⟩ := a
 obtain ⟨bn, bi, sb⟩ := b
 simp only at ha hb
 subst ha hb
 have h2 := Kn.cmp_zero ⟨false, ai, sa⟩ ⟨false, bi, sb⟩
 rw [h] at h2
 simp only [Kn.same, Bool.and_false, Bool.not_false, Bool.true_and, Bool.false_or, beq_self_eq_true] at h2
 have h3 := h2.symm
 rw [Bool.and_eq_true, beq_iff_eq, beq_iff_eq] at h3
 rw [h3.1, s_inj h3.2]
structure Inv (l : List V) (z : Zo) : Prop where
 nulls : z.nulls = true ↔ ∃ v ∈ l, v.null = true
 values : z.values = true ↔ ∃ v ∈ l, v.null = false
 zero : z.values = false → z.lo = zv ∧ z.hi = zv
 lo : z.values = true → z.lo ∈ l ∧ z.lo.null = false ∧ ∀ v ∈ l, v.null = false → cmp z.lo v ≤ 0
 hi : z.values = true → z.hi ∈ l ∧ z.hi.null = false ∧ ∀ v ∈ l, v.null = false → cmp v z.hi ≤ 0
theorem Inv.nil : Inv [] z0 := ⟨by simp [z0], by simp [z0], fun _ => ⟨rfl, rfl⟩, (fun h => by cases h), (fun h => by cases h)⟩
theorem Inv.add {l : List V} {z : Zo} (h : Inv l z) (v : V) : Inv (l ++ [v]) (add z v) := by
 unfold Zn.add
 cases hv : v.null
 ·rw [if_neg (by decide)]
  refine ⟨?_, ?_, (fun h => by cases h), fun _ => ?_, fun _ => ?_⟩
  ·show z.nulls = true ↔ _
   rw [h.nulls]
   constructor
   ·rintro ⟨x, hx, hn⟩; exact ⟨x, List.mem_append_left _ hx, hn⟩
   ·rintro ⟨x, hx, hn⟩
    rcases List.mem_append.1 hx with hx | hx
    ·exact ⟨x, hx, hn⟩
    ·rw [List.mem_singleton] at hx
     subst hx
     rw [hv] at hn
     cases hn
  ·show true = true ↔ _
   exact ⟨fun _ => ⟨v, List.mem_append_right _ (List.mem_singleton.2 rfl), hv⟩, fun _ => rfl⟩
  ·show (if z.values = true then (if cmp v z.lo < 0 then v else z.lo) else v) ∈ _ ∧ _
   cases hz : z.values
   ·rw [if_neg (by decide)]
    refine ⟨List.mem_append_right _ (List.mem_singleton.2 rfl), hv, fun x hx hn => ?_⟩
    rcases List.mem_append.1 hx with hx | hx
    ·have := h.values.2 ⟨x, hx, hn⟩
     rw [hz] at this
     cases this
    ·rw [List.mem_singleton] at hx
     subst hx
     rw [self]
     exact Int.le_refl _
   ·obtain ⟨k1, k2, k3⟩ := h.lo hz
    rw [if_pos rfl]
    by_cases hc : cmp v z.lo < 0
    ·rw [if_pos hc]
     refine ⟨List.mem_append_right _ (List.mem_singleton.2 rfl), hv, fun x hx hn => ?_⟩
     rcases List.mem_append.1 hx with hx | hx
     ·exact Int.le_of_lt (lt_trans hc (k3 x hx hn))
     ·rw [List.mem_singleton] at hx
      subst hx
      rw [self]
      exact Int.le_refl _
    ·rw [if_neg hc]
     refine ⟨List.mem_append_left _ k1, k2, fun x hx hn => ?_⟩
     rcases List.mem_append.1 hx with hx | hx
     ·exact k3 x hx hn
     ·rw [List.mem_singleton] at hx
      subst hx
      have := anti x z.lo
      show cmp z.lo x ≤ 0
      omega
  ·show (if z.values = true then (if cmp v z.hi > 0 then v else z.hi) else v) ∈ _ ∧ _
   cases hz : z.values
   ·rw [if_neg (by decide)]
    refine ⟨List.mem_append_right _ (List.mem_singleton.2 rfl), hv, fun x hx hn => ?_⟩
    rcases List.mem_append.1 hx with hx | hx
    ·have := h.values.2 ⟨x, hx, hn⟩
     rw [hz] at this
     cases this
    ·rw [List.mem_singleton] at hx
     subst hx
     rw [self]
     exact Int.le_refl _
   ·obtain ⟨k1, k2, k3⟩ := h.hi hz
    rw [if_pos rfl]
    by_cases hc : cmp v z.hi > 0
    ·rw [if_pos hc]
     refine ⟨List.mem_append_right _ (List.mem_singleton.2 rfl), hv, fun x hx hn => ?_⟩
     rcases List.mem_append.1 hx with hx | hx
     ·have := anti v z.hi
      exact trans (k3 x hx hn) (show cmp z.hi v ≤ 0 by omega)
     ·rw [List.mem_singleton] at hx
      subst hx
      rw [self]
      exact Int.le_refl _
    ·rw [if_neg hc]
     refine ⟨List.mem_append_left _ k1, k2, fun x hx hn => ?_⟩
     rcases List.mem_append.1 hx with hx | hx
     ·exact k3 x hx hn
     ·rw [List.mem_singleton] at hx
      subst hx
      show cmp x z.hi ≤ 0
      omega
 ·rw [if_pos rfl]
  have hval : (∃ x ∈ l ++ [v], x.null = false) ↔ ∃ x ∈ l, x.null = false := by
   constructor
   ·rintro ⟨x, hx, hn⟩
    rcases List.mem_append.1 hx with hx | hx
    ·exact ⟨x, hx, hn⟩
    ·rw [List.mem_singleton] at hx
     subst hx
     rw [hv] at hn
     cases hn
   ·rintro ⟨x, hx, hn⟩; exact ⟨x, List.mem_append_left _ hx, hn⟩
  refine ⟨?_, ?_, fun h0 => h.zero h0, fun hz => ?_, fun hz => ?_⟩
  ·show true = true ↔ _
   exact ⟨fun _ => ⟨v, List.mem_append_right _ (List.mem_singleton.2 rfl), hv⟩, fun _ => rfl⟩
  ·show z.values = true ↔ _
   rw [hval, h.values]
  ·obtain ⟨k1, k2, k3⟩ := h.lo hz
   refine ⟨List.mem_append_left _ k1, k2, fun x hx hn => ?_⟩
   rcases List.mem_append.1 hx with hx | hx
   ·exact k3 x hx hn
   ·rw [List.mem_singleton] at hx
    subst hx
    rw [hv] at hn
    cases hn
  ·obtain ⟨k1, k2, k3⟩ := h.hi hz
   refine ⟨List.mem_append_left _ k1, k2, fun x hx hn => ?_⟩
   rcases List.mem_append.1 hx with hx | hx
   ·exact k3 x hx hn
   ·rw [List.mem_singleton] at hx
    subst hx
    rw [hv] at hn
    cases hn
theorem Inv.more : ∀ (l m : List V) (z : Zo), Inv m z → Inv (m ++ l) (l.foldl Zn.add z)
 | [], m, z, h => by rw [List.append_nil]; exact h
 | v :: l, m, z, h => by
   have := Inv.more l (m ++ [v]) (Zn.add z v) (h.add v)
   rw [List.append_assoc] at this
   exact this
theorem of_inv (l : List V) : Inv l (of l) := by
 have := Inv.more l [] z0 Inv.nil
 rw [List.nil_append] at this
 exact this
theorem bool_iff {a b : Bool} (h : a = true ↔ b = true) : a = b := by cases a <;> cases b <;> simp_all
theorem Inv.one {l m : List V} {z y : Zo} (h : Inv l z) (k : Inv m y) (he : ∀ v, v ∈ l ↔ v ∈ m) : z = y := by
 have h1 : z.nulls = y.nulls := bool_iff (by rw [h.nulls, k.nulls]; simp only [he])
 have h2 : z.values = y.values := bool_iff (by rw [h.values, k.values]; simp only [he])
 obtain ⟨zn, zw, zl, zh⟩ := z
 obtain ⟨yn, yw, yl, yh⟩ := y
 simp only at h1 h2
 subst h1 h2
 cases zw
 ·obtain ⟨rfl, rfl⟩ := h.zero rfl
  obtain ⟨e1, e2⟩ := k.zero rfl
  simp only at e1 e2
  rw [e1, e2]
 ·obtain ⟨a1, a2, a3⟩ := h.lo rfl
  obtain ⟨b1, b2, b3⟩ := k.lo rfl
  obtain ⟨c1, c2, c3⟩ := h.hi rfl
  obtain ⟨d1, d2, d3⟩ := k.hi rfl
  simp only at a1 a2 a3 b1 b2 b3 c1 c2 c3 d1 d2 d3
  have e1 : zl = yl := cmp_eq a2 b2 (by have := a3 yl ((he _).2 b1) b2; have := b3 zl ((he _).1 a1) a2; have := anti zl yl; omega)
  have e2 : zh = yh := cmp_eq c2 d2 (by have := c3 yh ((he _).2 d1) d2; have := d3 zh ((he _).1 c1) c2; have := anti zh yh; omega)
  rw [e1, e2]
theorem safe (a : As) (l : List V) : ((!(l.any (holds a)) || may a (of l)) && (!(may a (of l)) || l.any (holds a) || a.op == 1)) = true := by
 have h := of_inv l
 generalize of l = z at h ⊢
 have hany : ∀ p : V → Bool, l.any p = true ↔ ∃ v ∈ l, p v = true := fun p => List.any_eq_true
 have key : (l.any (holds a) = true → may a z = true) ∧ (may a z = true → l.any (holds a) = true ∨ (a.op == 1) = true) := by
  rw [hany]
  unfold holds may
  by_cases h0 : a.op = 0
  ·simp only [if_pos h0]
   rw [Bool.or_eq_true, h.nulls, h.values]
   constructor
   ·rintro ⟨v, hv, _⟩
    cases hn : v.null
    ·exact .inr ⟨v, hv, hn⟩
    ·exact .inl ⟨v, hv, hn⟩
   ·rintro (⟨v, hv, _⟩ | ⟨v, hv, _⟩) <;> exact .inl ⟨v, hv, trivial⟩
  simp only [if_neg h0]
  by_cases h4 : a.op = 4
  ·simp only [if_pos h4]
   rw [h.nulls]
   exact ⟨id, .inl⟩
  simp only [if_neg h4]
  by_cases h5 : a.op = 5
  ·simp only [if_pos h5]
   rw [h.values]
   simp only [Bool.not_eq_true']
   exact ⟨id, .inl⟩
  simp only [if_neg h5]
  cases hn : a.v.null
  ·simp only [Bool.or_false]
   cases hz : z.values
   ·have hall : ∀ v ∈ l, v.null = true := fun v hv => by
     cases hvn : v.null
     ·have := h.values.2 ⟨v, hv, hvn⟩
      rw [hz] at this
      cases this
     ·rfl
    rw [if_pos (by decide)]
    refine ⟨?_, (fun h => by cases h)⟩
    rintro ⟨v, hv, h2⟩
    rw [if_pos (hall v hv)] at h2
    exact h2
   ·obtain ⟨l1, l2, l3⟩ := h.lo hz
    obtain ⟨u1, u2, u3⟩ := h.hi hz
    rw [if_neg (by decide), bare_of l2, bare_of u2]
    by_cases h1 : a.op = 1
    ·simp only [if_pos h1]
     refine ⟨?_, fun _ => .inr (by rw [h1]; rfl)⟩
     rintro ⟨v, hv, h2⟩
     cases hvn : v.null
     ·rw [hvn, if_neg (by decide), beq_iff_eq] at h2
      have k1 := trans (l3 v hv hvn) (show cmp v a.v ≤ 0 by omega)
      have k2 := trans (show cmp a.v v ≤ 0 by have := anti v a.v; omega) (u3 v hv hvn)
      have k3 := anti a.v z.hi
      rw [Bool.and_eq_true, decide_eq_true_eq, decide_eq_true_eq]
      omega
     ·rw [hvn, if_pos rfl] at h2
      cases h2
    simp only [if_neg h1]
    by_cases h2 : a.op = 2
    ·simp only [if_pos h2]
     rw [decide_eq_true_eq]
     constructor
     ·rintro ⟨v, hv, h3⟩
      cases hvn : v.null
      ·rw [hvn, if_neg (by decide), decide_eq_true_eq] at h3
       exact trans_lt (l3 v hv hvn) h3
      ·rw [hvn, if_pos rfl] at h3
       cases h3
     ·intro h3
      refine .inl ⟨z.lo, l1, ?_⟩
      rw [l2, if_neg (by decide), decide_eq_true_eq]
      exact h3
    simp only [if_neg h2]
    by_cases h3 : a.op = 3
    ·simp only [if_pos h3]
     rw [decide_eq_true_eq]
     constructor
     ·rintro ⟨v, hv, h4⟩
      cases hvn : v.null
      ·rw [hvn, if_neg (by decide), decide_eq_true_eq] at h4
       have k2 := trans (show cmp a.v v ≤ 0 by have := anti v a.v; omega) (u3 v hv hvn)
       have k3 := anti a.v z.hi
       omega
      ·rw [hvn, if_pos rfl] at h4
       cases h4
     ·intro h4
      refine .inl ⟨z.hi, u1, ?_⟩
      rw [u2, if_neg (by decide), decide_eq_true_eq]
      exact h4
    simp only [if_neg h3]
    refine ⟨?_, (fun h => by cases h)⟩
    rintro ⟨v, hv, h4⟩
    split at h4 <;> exact h4
  ·simp only [Bool.or_true, if_true]
   refine ⟨?_, (fun h => by cases h)⟩
   rintro ⟨v, hv, h2⟩
   exact h2
 rw [Bool.and_eq_true, Bool.or_eq_true, Bool.or_eq_true, Bool.or_eq_true, Bool.not_eq_true', Bool.not_eq_true']
 obtain ⟨k1, k2⟩ := key
 refine ⟨?_, ?_⟩
 ·cases hA : l.any (holds a)
  ·exact .inl rfl
  ·exact .inr (k1 hA)
 ·cases hM : may a z
  ·exact .inl (.inl rfl)
  ·rcases k2 hM with h | h
   ·exact .inl (.inr h)
   ·exact .inr h
end Go.Proofs.Ytodeodndjkkkbaa.Zn
