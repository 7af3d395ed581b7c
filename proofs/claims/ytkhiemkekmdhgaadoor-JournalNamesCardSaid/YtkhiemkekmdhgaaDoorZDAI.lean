import Derived.Test.YtkhiemkekmdhgaaDoorZDAA
import Derived.Test.YtkhiemkekmdhgaaDoorZDAH
import Derived.Test.YtkhiemkekmdhgaaDoorZDAG
import Derived.Test.YtkhiemkekmdhgaaDoorZDAB
import Derived.Lib.QuietBelow
import Derived.BigQuiet
namespace Go.Proofs.YtkhiemkekmdhgaaDoor.Zn
open Go
open Kn (V cmp)
structure Zo where
 nulls : Bool
 values : Bool
 lo : V
 hi : V
abbrev Zo.val (z : Zo) : Value := .agg #[.bool z.nulls, .bool z.values, .bool z.lo.null, .int .i64 z.lo.n, .string z.lo.s, .bool z.hi.null, .int .i64 z.hi.n, .string z.hi.s]
structure As where
 op : Int
 col : Int
 v : V
abbrev As.val (a : As) : Value := .agg #[.int .i64 a.op, .int .i64 a.col, .bool a.v.null, .int .i64 a.v.n, .string a.v.s]
def zv : V := ⟨false, 0, ⟨#[]⟩⟩
def z0 : Zo := ⟨false, false, zv, zv⟩
def bare (v : V) : V := ⟨false, v.n, v.s⟩
def add (z : Zo) (v : V) : Zo :=
 if v.null = true then ⟨true, z.values, z.lo, z.hi⟩
 else ⟨z.nulls, true, if z.values = true then (if cmp v z.lo < 0 then v else z.lo) else v, if z.values = true then (if cmp v z.hi > 0 then v else z.hi) else v⟩
def of (l : List V) : Zo := l.foldl add z0
def holds (a : As) (v : V) : Bool :=
 if a.op = 0 then true else if a.op = 4 then v.null else if a.op = 5 then !v.null
 else if (v.null || a.v.null) = true then false
 else if a.op = 1 then cmp v a.v == 0 else if a.op = 2 then decide (cmp v a.v < 0) else if a.op = 3 then decide (0 ≤ cmp v a.v) else false
def may (a : As) (z : Zo) : Bool :=
 if a.op = 0 then (z.nulls || z.values) else if a.op = 4 then z.nulls else if a.op = 5 then z.values
 else if (!z.values || a.v.null) = true then false
 else if a.op = 1 then (decide (cmp (bare z.lo) a.v ≤ 0) && decide (0 ≤ cmp (bare z.hi) a.v)) else if a.op = 2 then decide (cmp (bare z.lo) a.v < 0) else if a.op = 3 then decide (0 ≤ cmp (bare z.hi) a.v) else false
def ends (z : Zo) : List V := if z.values = true then [bare z.lo, bare z.hi] else []
def join (x y : Zo) : Zo := ⟨x.nulls || y.nulls, (of (ends x ++ ends y)).values, (of (ends x ++ ends y)).lo, (of (ends x ++ ends y)).hi⟩
theorem anti (a b : V) : cmp b a = -cmp a b := (Kn.cmp_fair a b b).xa
theorem self (a : V) : cmp a a = 0 := by have := anti a a; omega
theorem trans {a b c : V} (h : cmp a b ≤ 0) (k : cmp b c ≤ 0) : cmp a c ≤ 0 := (Kn.cmp_fair a b c).le h k
theorem lt_trans {a b c : V} (h : cmp a b < 0) (k : cmp b c ≤ 0) : cmp a c < 0 := by
 have f := Kn.cmp_fair a b c
 have h1 := f.le (by omega) k
 rcases Int.lt_or_eq_of_le h1 with h2 | h2
 ·exact h2
 ·have := (f.lt (by omega) k h2).1; omega
theorem s_inj {a b : ByteArray} (h : a.toList = b.toList) : a = b := by
 rw [ByteArray.toList_eq, ByteArray.toList_eq] at h
 obtain ⟨a⟩ := a
 obtain ⟨b⟩ := b
 congr 1
 exact Array.toList_inj.1 h
theorem cmp_eq {a b : V} (ha : a.null = false) (hb : b.null = false) (h : cmp a b = 0) : a = b := by
 obtain ⟨an, ai, sa⟩ := a
 obtain ⟨bn, bi, sb⟩ := b
 simp only at ha hb
 subst ha hb
 have h2 := Kn.cmp_zero ⟨false, ai, sa⟩ ⟨false, bi, sb⟩
 rw [h] at h2
 simp only [Kn.same, Bool.and_false, Bool.not_false, Bool.true_and, Bool.false_or, beq_self_eq_true] at h2
 have h3 := h2.symm
 rw [Bool.and_eq_true, beq_iff_eq, beq_iff_eq] at h3
 rw [h3.1, s_inj h3.2]
structure Inv (l : List V) (z : Zo) : Prop where
 nulls : z.nulls = true ↔ ∃ v ∈ l, v.null = true
 values : z.values = true ↔ ∃ v ∈ l, v.null = false
 zero : z.values = false → z.lo = zv ∧ z.hi = zv
 lo : z.values = true → z.lo ∈ l ∧ z.lo.null = false ∧ ∀ v ∈ l, v.null = false → cmp z.lo v ≤ 0
 hi : z.values = true → z.hi ∈ l ∧ z.hi.null = false ∧ ∀ v ∈ l, v.null = false → cmp v z.hi ≤ 0
theorem Inv.nil : Inv [] z0 := ⟨by simp [z0], by simp [z0], fun _ => ⟨rfl, rfl⟩, (fun h => by cases h), (fun h => by cases h)⟩
theorem Inv.add {l : List V} {z : Zo} (h : Inv l z) (v : V) : Inv (l ++ [v]) (add z v) := by
 unfold Zn.add
 cases hv : v.null
 ·rw [if_neg (by decide)]
  refine ⟨?_, ?_, (fun h => by cases h), fun _ => ?_, fun _ => ?_⟩
  ·show z.nulls = true ↔ _
   rw [h.nulls]
   constructor
   ·rintro ⟨x, hx, hn⟩; exact ⟨x, List.mem_append_left _ hx, hn⟩
   ·rintro ⟨x, hx, hn⟩
    rcases List.mem_append.1 hx with hx | hx
    ·exact ⟨x, hx, hn⟩
    ·rw [List.mem_singleton] at hx
     subst hx
     rw [hv] at hn
     cases hn
  ·show true = true ↔ _
   exact ⟨fun _ => ⟨v, List.mem_append_right _ (List.mem_singleton.2 rfl), hv⟩, fun _ => rfl⟩
  ·show (if z.values = true then (if cmp v z.lo < 0 then v else z.lo) else v) ∈ _ ∧ _
   cases hz : z.values
   ·rw [if_neg (by decide)]
    refine ⟨List.mem_append_right _ (List.mem_singleton.2 rfl), hv, fun x hx hn => ?_⟩
    rcases List.mem_append.1 hx with hx | hx
    ·have := h.values.2 ⟨x, hx, hn⟩
     rw [hz] at this
     cases this
    ·rw [List.mem_singleton] at hx
     subst hx
     rw [self]
     exact Int.le_refl _
   ·obtain ⟨k1, k2, k3⟩ := h.lo hz
    rw [if_pos rfl]
    by_cases hc : cmp v z.lo < 0
    ·rw [if_pos hc]
     refine ⟨List.mem_append_right _ (List.mem_singleton.2 rfl), hv, fun x hx hn => ?_⟩
     rcases List.mem_append.1 hx with hx | hx
     ·exact Int.le_of_lt (lt_trans hc (k3 x hx hn))
     ·rw [List.mem_singleton] at hx
      subst hx
      rw [self]
      exact Int.le_refl _
    ·rw [if_neg hc]
     refine ⟨List.mem_append_left _ k1, k2, fun x hx hn => ?_⟩
     rcases List.mem_append.1 hx with hx | hx
     ·exact k3 x hx hn
     ·rw [List.mem_singleton] at hx
      subst hx
      have := anti x z.lo
      show cmp z.lo x ≤ 0
      omega
  ·show (if z.values = true then (if cmp v z.hi > 0 then v else z.hi) else v) ∈ _ ∧ _
   cases hz : z.values
   ·rw [if_neg (by decide)]
    refine ⟨List.mem_append_right _ (List.mem_singleton.2 rfl), hv, fun x hx hn => ?_⟩
    rcases List.mem_append.1 hx with hx | hx
    ·have := h.values.2 ⟨x, hx, hn⟩
     rw [hz] at this
     cases this
    ·rw [List.mem_singleton] at hx
     subst hx
     rw [self]
     exact Int.le_refl _
   ·obtain ⟨k1, k2, k3⟩ := h.hi hz
    rw [if_pos rfl]
    by_cases hc : cmp v z.hi > 0
    ·rw [if_pos hc]
     refine ⟨List.mem_append_right _ (List.mem_singleton.2 rfl), hv, fun x hx hn => ?_⟩
     rcases List.mem_append.1 hx with hx | hx
     ·have := anti v z.hi
      exact trans (k3 x hx hn) (show cmp z.hi v ≤ 0 by omega)
     ·rw [List.mem_singleton] at hx
      subst hx
      rw [self]
      exact Int.le_refl _
    ·rw [if_neg hc]
     refine ⟨List.mem_append_left _ k1, k2, fun x hx hn => ?_⟩
     rcases List.mem_append.1 hx with hx | hx
     ·exact k3 x hx hn
     ·rw [List.mem_singleton] at hx
      subst hx
      show cmp x z.hi ≤ 0
      omega
 ·rw [if_pos rfl]
  have hval : (∃ x ∈ l ++ [v], x.null = false) ↔ ∃ x ∈ l, x.null = false := by
   constructor
   ·rintro ⟨x, hx, hn⟩
    rcases List.mem_append.1 hx with hx | hx
    ·exact ⟨x, hx, hn⟩
    ·rw [List.mem_singleton] at hx
     subst hx
     rw [hv] at hn
     cases hn
   ·rintro ⟨x, hx, hn⟩; exact ⟨x, List.mem_append_left _ hx, hn⟩
  refine ⟨?_, ?_, fun h0 => h.zero h0, fun hz => ?_, fun hz => ?_⟩
  ·show true = true ↔ _
   exact ⟨fun _ => ⟨v, List.mem_append_right _ (List.mem_singleton.2 rfl), hv⟩, fun _ => rfl⟩
  ·show z.values = true ↔ _
   rw [hval, h.values]
  ·obtain ⟨k1, k2, k3⟩ := h.lo hz
   refine ⟨List.mem_append_left _ k1, k2, fun x hx hn => ?_⟩
   rcases List.mem_append.1 hx with hx | hx
   ·exact k3 x hx hn
   ·rw [List.mem_singleton] at hx
    subst hx
    rw [hv] at hn
    cases hn
  ·obtain ⟨k1, k2, k3⟩ := h.hi hz
   refine ⟨List.mem_append_left _ k1, k2, fun x hx hn => ?_⟩
   rcases List.mem_append.1 hx with hx | hx
   ·exact k3 x hx hn
   ·rw [List.mem_singleton] at hx
    subst hx
    rw [hv] at hn
    cases hn
theorem Inv.more : ∀ (l m : List V) (z : Zo), Inv m z → Inv (m ++ l) (l.foldl Zn.add z)
 | [], m, z, h => by rw [List.append_nil]; exact h
 | v :: l, m, z, h => by
   have := Inv.more l (m ++ [v]) (Zn.add z v) (h.add v)
   rw [List.append_assoc] at this
   exact this
theorem bool_iff {a b : Bool} (h : a = true ↔ b = true) : a = b := by cases a <;> cases b <;> simp_all
theorem Inv.one {l m : List V} {z y : Zo} (h : Inv l z) (k : Inv m y) (he : ∀ v, v ∈ l ↔ v ∈ m) : z = y := by
 have h1 : z.nulls = y.nulls := bool_iff (by rw [h.nulls, k.nulls]; simp only [he])
 have h2 : z.values = y.values := bool_iff (by rw [h.values, k.values]; simp only [he])
 obtain ⟨zn, zw, zl, zh⟩ := z
 obtain ⟨yn, yw, yl, yh⟩ := y
 simp only at h1 h2
 subst h1 h2
 cases zw
 ·obtain ⟨rfl, rfl⟩ := h.zero rfl
  obtain ⟨e1, e2⟩ := k.zero rfl
  simp only at e1 e2
  rw [e1, e2]
 ·obtain ⟨a1, a2, a3⟩ := h.lo rfl
  obtain ⟨b1, b2, b3⟩ := k.lo rfl
  obtain ⟨c1, c2, c3⟩ := h.hi rfl
  obtain ⟨d1, d2, d3⟩ := k.hi rfl
  simp only at a1 a2 a3 b1 b2 b3 c1 c2 c3 d1 d2 d3
  have e1 : zl = yl := cmp_eq a2 b2 (by have := a3 yl ((he _).2 b1) b2; have := b3 zl ((he _).1 a1) a2; have := anti zl yl; omega)
  have e2 : zh = yh := cmp_eq c2 d2 (by have := c3 yh ((he _).2 d1) d2; have := d3 zh ((he _).1 c1) c2; have := anti zh yh; omega)
  rw [e1, e2]
end Go.Proofs.YtkhiemkekmdhgaaDoor.Zn
namespace Go.Proofs.YtkhiemkekmdhgaaDoor
open Go.RowKit
structure Kn.R where
 from_ : Bool
 til : Bool
 lo : Kn.V
 hi : Kn.V
abbrev Kn.R.val (r : Kn.R) : Value := .agg #[.bool r.from_, .bool r.til, .bool r.lo.null, .int .i64 r.lo.n, .string r.lo.s, .bool r.hi.null, .int .i64 r.hi.n, .string r.hi.s]
structure Kn.RAt (w : World) (b : Nat) (r : Kn.R) : Prop where
 c0 : w.cell? ⟨b, 0, none⟩ = some (.bool r.from_)
 c1 : w.cell? ⟨b, 1, none⟩ = some (.bool r.til)
 lo : Kn.At w b 2 r.lo
 hi : Kn.At w b 5 r.hi
theorem Kn.RAt.later {w w' : World} {b : Nat} {r : Kn.R} (h : Kn.RAt w b r) (g : Below w.heap.size w w') : Kn.RAt w' b r :=
 ⟨(g.cell (p := ⟨b, 0, none⟩) h.lo.lt).trans h.c0, (g.cell (p := ⟨b, 1, none⟩) h.lo.lt).trans h.c1, h.lo.later g, h.hi.later g⟩
theorem Kn.RAt.new (w : World) (r : Kn.R) (t : TypeId) : Kn.RAt (w.alloc (.cells #[.bool r.from_, .bool r.til, .bool r.lo.null, .int .i64 r.lo.n, .string r.lo.s, .bool r.hi.null, .int .i64 r.hi.n, .string r.hi.s] t)) w.heap.size r :=
 ⟨Kn.cell_new w _ t 0 _ rfl, Kn.cell_new w _ t 1 _ rfl, ⟨Kn.cell_new w _ t 2 _ rfl, Kn.cell_new w _ t 3 _ rfl, Kn.cell_new w _ t 4 _ rfl⟩, ⟨Kn.cell_new w _ t 5 _ rfl, Kn.cell_new w _ t 6 _ rfl, Kn.cell_new w _ t 7 _ rfl⟩⟩
theorem Kn.RAt.alloc {w : World} {b : Nat} {r : Kn.R} (h : Kn.RAt w b r) (x : Obj) : Kn.RAt (w.alloc x) b r := h.later ((Below.refl _ w).alloc (Nat.le_refl _) x)
def Kn.inR (r : Kn.R) (k : Kn.V) : Bool := (!r.from_ || !decide (Kn.cmp k r.lo < 0)) && (!r.til || decide (Kn.cmp k r.hi < 0))
end Go.Proofs.YtkhiemkekmdhgaaDoor
namespace Go.Proofs.YtkhiemkekmdhgaaDoor
open Go
open Ty (encU U64 I64)
def Rn.nb (n : Nat) : Nat := (n + 7) / 8
def Rn.bk (L : List Dd.D) (i : Nat) : List Dd.D := (L.drop (8 * i)).take 8
def Rn.blocks (L : List Dd.D) : List (List Dd.D) := (List.range (Rn.nb L.length)).map (Rn.bk L)
def Rn.index (s : List Kn.C) (L : List Dd.D) : List UInt8 := encU (Rn.nb L.length) ++ (Rn.blocks L).flatMap fun b => encU (Fr.frm (Bk.enc s b)).length
def Rn.texts (s : List Kn.C) (L : List Dd.D) : List Fr.Str := (Rn.blocks L).map (Bk.enc s) ++ [Rn.index s L]
def Rn.enc (s : List Kn.C) (L : List Dd.D) : List UInt8 := (Rn.texts s L).flatMap Fr.frm
def Rn.wE (s : List Kn.C) (L : List Dd.D) : Int :=
 if Kn.right s = true then (if L.length = 0 then 1 else if Bk.fitsE s L = 0 then (if 1048576 < (Rn.enc s L).length then 3 else 0) else Bk.fitsE s L) else 4
def Rn.wS (s : List Kn.C) (L : List Dd.D) : List UInt8 := if Rn.wE s L = 0 then Rn.enc s L else []
def Rn.wV (s : List Kn.C) (L : List Dd.D) : Value := .tuple #[.string (Ty.S (Rn.wS s L)), .int .i64 (Rn.wE s L)]
theorem Rn.asc {L : List Dd.D} (h : Bk.sorted L = true) : ∀ (j i : Nat), i < j → j < L.length → Kn.cmp (Bk.key (L.getD i Bk.nod)) (Bk.key (L.getD j Bk.nod)) < 0
 | 0, i, hij, _ => by omega
 | j + 1, i, hij, hj => by
   unfold Bk.sorted at h
   have hst := List.all_eq_true.1 h (j + 1) (List.mem_range.2 hj)
   unfold Bk.step at hst
   rw [Bool.and_eq_true, Bool.or_eq_true] at hst
   have h1 : Kn.cmp (Bk.key (L.getD j Bk.nod)) (Bk.key (L.getD (j + 1) Bk.nod)) < 0 := by
    rcases hst.2 with h2 | h2
    ·rw [beq_iff_eq] at h2; omega
    ·rw [Nat.add_sub_cancel] at h2
     exact of_decide_eq_true h2
   rcases Nat.lt_or_ge i j with h2 | h2
   ·have ih := Rn.asc (by unfold Bk.sorted; exact h) j i h2 (by omega)
    exact Zn.lt_trans ih (by omega)
   ·obtain rfl : i = j := by omega
    exact h1
def Rn.get (L : List Dd.D) (k : Kn.V) : Option Dd.D := L.find? fun d => Kn.cmp (Bk.key d) k == 0
def Rn.in_ (L : List Dd.D) (r : Kn.R) : List Dd.D := L.filter fun d => Kn.inR r (Bk.key d)
def Rn.zone (s : List Kn.C) (L : List Dd.D) (b c : Int) : Zn.Zo := if 0 ≤ b ∧ b < (Rn.nb L.length : Int) ∧ 0 ≤ c ∧ c < (s.length : Int) then Zn.of (Bk.col (Rn.bk L b.toNat) c.toNat) else Zn.z0
def Rn.holds (r : Kn.R) (a : Zn.As) (d : Dd.D) : Bool := !d.gone && Kn.inR r (Bk.key d) && decide (0 ≤ a.col ∧ a.col < (d.row.length : Int)) && Zn.holds a (d.row.getD a.col.toNat Cl.nul)
def Rn.hold (L : List Dd.D) (r : Kn.R) (a : Zn.As) : List (List Kn.V) := (L.filter (Rn.holds r a)).map Dd.D.row
def Rn.meets (z : Zn.Zo) (r : Kn.R) : Bool := (!r.from_ || !decide (Kn.cmp z.hi r.lo < 0)) && (!r.til || decide (Kn.cmp z.lo r.hi < 0))
def Rn.look (s : List Kn.C) (L : List Dd.D) (r : Kn.R) (a : Zn.As) (i : Nat) : Bool := decide (0 ≤ a.col ∧ a.col < (s.length : Int)) && Rn.meets (Rn.zone s L i 0) r && Zn.may a (Rn.zone s L i a.col)
def Rn.looked (s : List Kn.C) (L : List Dd.D) (r : Kn.R) (a : Zn.As) : Nat := ((List.range (Rn.nb L.length)).filter (Rn.look s L r a)).length
end Go.Proofs.YtkhiemkekmdhgaaDoor
namespace Go.Proofs.YtkhiemkekmdhgaaDoor
open Go.RowKit
structure Bk.Ds (w : World) (v : Value) (L : List Dd.D) : Prop where
 is : ∃ a c, v = .slice a L.length c ∧ L.length ≤ c ∧ c ≤ 9223372036854775807 ∧ (L = [] ∨ ∃ b o, a = some ⟨b, o, none⟩ ∧ b < w.heap.size ∧
  ∀ i x, L[i]? = some x → ∃ u, w.cell? ⟨b, o + i * 2, none⟩ = some (.bool x.gone) ∧ w.cell? ⟨b, o + i * 2 + 1, none⟩ = some u ∧ Kn.Vals w u x.row)
theorem Bk.Ds.later {w w' : World} {v : Value} {L : List Dd.D} (h : Bk.Ds w v L) (g : Below w.heap.size w w') : Bk.Ds w' v L := by
 obtain ⟨a, c, hv, h1, h2, h⟩ := h
 refine ⟨a, c, hv, h1, h2, ?_⟩
 rcases h with h | ⟨b, o, ha, hb, h⟩
 ·exact .inl h
 ·refine .inr ⟨b, o, ha, Nat.lt_of_lt_of_le hb g.size, fun i x hx => ?_⟩
  obtain ⟨u, c0, c1, hu⟩ := h i x hx
  exact ⟨u, (g.cell (p := ⟨b, o + i * 2, none⟩) hb).trans c0, (g.cell (p := ⟨b, o + i * 2 + 1, none⟩) hb).trans c1, hu.later g⟩
def Bk.Zs (L : List Dd.D) : Prop := ∀ d ∈ L, ∀ v ∈ d.row, Kn.Z v
theorem Bk.below_reg {w w' : World} (h : ∃ p : Regrown, w' = Sort.grow (redrawn w p.d) p.os) : Below w.heap.size w w' := by
 obtain ⟨p, rfl⟩ := h
 exact below_regrown w p.d p.os
end Go.Proofs.YtkhiemkekmdhgaaDoor
namespace Go.Proofs.YtkhiemkekmdhgaaDoor.Dk
open Go
abbrev Str := List UInt8
abbrev Dir := List (Str × Nat)
structure Ch where
 a : Str
 b : Str
 f : Int
structure D where
 files : List (Str × Nat)
 dir : Dir
 sure : Dir
 chg : List Ch
 room : Int
 halt : Int
 deny : Int
 calls : Nat
def okc (b : UInt8) : Bool := (97 ≤ b.toNat && b.toNat ≤ 122) || (48 ≤ b.toNat && b.toNat ≤ 57) || b.toNat == 46
def right (s : Str) : Bool := s.all okc && (1 ≤ s.length && s.length ≤ 12)
def lt (a b : Str) : Bool := Op.bytesLess a b
theorem lt_trans {a b c : Str} : lt a b = true → lt b c = true → lt a c = true := Kn.bl_trans a b c
theorem lt_ne {a b : Str} (h : lt a b = true) : a ≠ b := (Kn.bl_ne h).2
theorem lt_total {a b : Str} (h : lt a b = false) (n : a ≠ b) : lt b a = true := by
 rcases Kn.bl_total a b with g | g | g
 ·rw [lt, g] at h; cases h
 ·exact absurd g n
 ·exact g
def look (l : Dir) (s : Str) : Option Nat := (l.find? fun y => y.1 == s).map (·.2)
def wo (l : Dir) (s : Str) : Dir := l.filter fun y => y.1 != s
def wi (l : Dir) (x : Str × Nat) : Dir := (wo l x.1).takeWhile (fun y => lt y.1 x.1) ++ x :: (wo l x.1).dropWhile (fun y => lt y.1 x.1)
def Asc (l : Dir) : Prop := l.Pairwise fun x y => lt x.1 y.1 = true
theorem mem_wo {l : Dir} {s : Str} {y : Str × Nat} : y ∈ wo l s ↔ y ∈ l ∧ y.1 ≠ s := by
 unfold wo
 rw [List.mem_filter]
 simp
theorem mem_split (p : (Str × Nat) → Bool) (l : Dir) (y : Str × Nat) : y ∈ l ↔ y ∈ l.takeWhile p ∨ y ∈ l.dropWhile p := by
 conv => lhs; rw [← List.takeWhile_append_dropWhile (p := p) (l := l)]
 rw [List.mem_append]
theorem mem_wi {l : Dir} {x y : Str × Nat} : y ∈ wi l x ↔ y = x ∨ (y ∈ l ∧ y.1 ≠ x.1) := by
 unfold wi
 rw [List.mem_append, List.mem_cons, ← mem_wo, mem_split (fun y => lt y.1 x.1) (wo l x.1) y]
 constructor
 ·rintro (h | h | h)
  ·exact .inr (.inl h)
  ·exact .inl h
  ·exact .inr (.inr h)
 ·rintro (h | h | h)
  ·exact .inr (.inl h)
  ·exact .inl h
  ·exact .inr (.inr h)
theorem asc_wo {l : Dir} (h : Asc l) (s : Str) : Asc (wo l s) := List.Pairwise.filter _ h
theorem asc_drop {l : Dir} (h : Asc l) (x : Str) (hx : ∀ y ∈ l, y.1 ≠ x) : ∀ y ∈ l.dropWhile (fun y => lt y.1 x), lt x y.1 = true := by
 induction l with
 | nil => simp
 | cons a l ih =>
   rw [Asc, List.pairwise_cons] at h
   by_cases hl : lt a.1 x = true
   ·rw [List.dropWhile_cons_of_pos (p := fun y : Str × Nat => lt y.1 x) hl]
    exact ih h.2 fun y hy => hx y (List.mem_cons_of_mem _ hy)
   ·rw [List.dropWhile_cons_of_neg (p := fun y : Str × Nat => lt y.1 x) hl]
    have ha := lt_total (by simpa using hl) (hx a List.mem_cons_self)
    intro y hy
    rcases List.mem_cons.1 hy with rfl | hy
    ·exact ha
    ·exact lt_trans ha (h.1 y hy)
theorem take_lt (p : (Str × Nat) → Bool) (l : Dir) : ∀ y ∈ l.takeWhile p, p y = true := by
 induction l with
 | nil => simp
 | cons a l ih =>
   by_cases ha : p a = true
   ·rw [List.takeWhile_cons_of_pos ha]
    intro y hy
    rcases List.mem_cons.1 hy with rfl | hy
    ·exact ha
    ·exact ih y hy
   ·rw [List.takeWhile_cons_of_neg ha]
    simp
theorem asc_wi {l : Dir} (h : Asc l) (x : Str × Nat) : Asc (wi l x) := by
 have hw := asc_wo h x.1
 have hd := asc_drop hw x.1 fun y hy => (mem_wo.1 hy).2
 have ht := take_lt (fun y => lt y.1 x.1) (wo l x.1)
 unfold wi Asc
 rw [List.pairwise_append]
 refine ⟨hw.sublist (List.takeWhile_sublist _), ?_, ?_⟩
 ·rw [List.pairwise_cons]
  exact ⟨hd, hw.sublist (List.dropWhile_sublist _)⟩
 ·intro a ha b hb
  have h1 := ht a ha
  rcases List.mem_cons.1 hb with rfl | hb
  ·exact h1
  ·exact lt_trans h1 (hd b hb)
theorem asc_inj {l : Dir} (h : Asc l) {x y : Str × Nat} (hx : x ∈ l) (hy : y ∈ l) (e : x.1 = y.1) : x = y := by
 induction l with
 | nil => cases hx
 | cons a l ih =>
   rw [Asc, List.pairwise_cons] at h
   rcases List.mem_cons.1 hx with gx | gx <;> rcases List.mem_cons.1 hy with gy | gy
   ·rw [gx, gy]
   ·exact absurd e (by rw [gx]; exact lt_ne (h.1 y gy))
   ·exact absurd e.symm (by rw [gy]; exact lt_ne (h.1 x gx))
   ·exact ih h.2 gx gy
theorem look_some {l : Dir} (h : Asc l) {s : Str} {f : Nat} : look l s = some f ↔ (s, f) ∈ l := by
 unfold look
 constructor
 ·intro e
  cases hf : l.find? fun y => y.1 == s with
  | none => rw [hf] at e; cases e
  | some y =>
    rw [hf] at e
    have h1 := List.mem_of_find?_eq_some hf
    have h2 := List.find?_some hf
    simp only [beq_iff_eq] at h2
    simp only [Option.map_some, Option.some.injEq] at e
    rw [← h2, ← e]
    exact h1
 ·intro hm
  cases hf : l.find? fun y => y.1 == s with
  | none =>
    have := List.find?_eq_none.1 hf _ hm
    simp at this
  | some y =>
    have h1 := List.mem_of_find?_eq_some hf
    have h2 := List.find?_some hf
    simp only [beq_iff_eq] at h2
    rw [asc_inj h h1 hm h2]
    rfl
theorem len_wo (l : Dir) (s : Str) : (wo l s).length ≤ l.length := List.length_filter_le _ _
theorem len_wi (l : Dir) (x : Str × Nat) : (wi l x).length ≤ l.length + 1 := by
 have := len_wo l x.1
 have e : ((wo l x.1).takeWhile (fun y => lt y.1 x.1)).length + ((wo l x.1).dropWhile (fun y => lt y.1 x.1)).length = (wo l x.1).length := by
  rw [← List.length_append, List.takeWhile_append_dropWhile]
 unfold wi
 rw [List.length_append, List.length_cons]
 omega
def apply (l : Dir) (c : Ch) : Dir :=
 if c.b ≠ [] then (match look l c.a with | none => l | some f => wi (wo l c.a) (c.b, f))
 else if c.f < 0 then wo l c.a else wi l (c.a, c.f.toNat)
def Ok (n : Nat) (l : Dir) (c : Ch) : Prop :=
 if c.b ≠ [] then ∃ f, look l c.a = some f ∧ c.a ≠ c.b
 else if c.f < 0 then ∃ f, look l c.a = some f else look l c.a = none ∧ c.f.toNat < n ∧ ∀ y ∈ l, y.2 ≠ c.f.toNat
structure Well (n : Nat) (l : Dir) : Prop where
 asc : Asc l
 one : (l.map (·.2)).Nodup
 lim : ∀ y ∈ l, y.2 < n
theorem Well.mono {n m : Nat} {l : Dir} (h : Well n l) (hm : n ≤ m) : Well m l := ⟨h.asc, h.one, fun y hy => Nat.lt_of_lt_of_le (h.lim y hy) hm⟩
theorem Well.nil (n : Nat) : Well n [] := ⟨List.Pairwise.nil, List.nodup_nil, by simp⟩
theorem Well.wo {n : Nat} {l : Dir} (h : Well n l) (s : Str) : Well n (wo l s) :=
 ⟨asc_wo h.asc s, h.one.sublist ((List.filter_sublist (p := fun y : Str × Nat => y.1 != s) (l := l)).map _), fun y hy => h.lim y (mem_wo.1 hy).1⟩
theorem perm_wi (l : Dir) (x : Str × Nat) : (wi l x).Perm (x :: Dk.wo l x.1) := by
 have h : (wi l x).Perm (x :: ((Dk.wo l x.1).takeWhile (fun y => lt y.1 x.1) ++ (Dk.wo l x.1).dropWhile (fun y => lt y.1 x.1))) := List.perm_middle
 rwa [List.takeWhile_append_dropWhile] at h
theorem Well.wi {n : Nat} {l : Dir} (h : Well n l) (x : Str × Nat) (hx : x.2 < n) (hf : ∀ y ∈ Dk.wo l x.1, y.2 ≠ x.2) : Well n (wi l x) := by
 refine ⟨asc_wi h.asc x, ?_, fun y hy => ?_⟩
 ·have hp := (perm_wi l x).map (fun y : Str × Nat => y.2)
  rw [hp.nodup_iff, List.map_cons, List.nodup_cons]
  refine ⟨fun hm => ?_, (h.wo x.1).one⟩
  obtain ⟨y, hy, e⟩ := List.mem_map.1 hm
  exact hf y hy e
 ·rcases mem_wi.1 hy with rfl | ⟨hy, _⟩
  ·exact hx
  ·exact h.lim y hy
theorem Well.inj {n : Nat} {l : Dir} (h : Well n l) {x y : Str × Nat} (hx : x ∈ l) (hy : y ∈ l) (e : x.2 = y.2) : x = y := by
 have h1 := h.one
 induction l with
 | nil => cases hx
 | cons a l ih =>
   rw [List.map_cons, List.nodup_cons] at h1
   have ha := h.asc
   rw [Asc, List.pairwise_cons] at ha
   rcases List.mem_cons.1 hx with gx | gx <;> rcases List.mem_cons.1 hy with gy | gy
   ·rw [gx, gy]
   ·exact absurd (List.mem_map.2 ⟨y, gy, by rw [← gx]; exact e.symm⟩) h1.1
   ·exact absurd (List.mem_map.2 ⟨x, gx, by rw [← gy]; exact e⟩) h1.1
   ·exact ih ⟨ha.2, h1.2, fun y hy => h.lim y (List.mem_cons_of_mem _ hy)⟩ gx gy h1.2
theorem Well.apply {n : Nat} {l : Dir} (h : Well n l) {c : Ch} (hc : Ok n l c) : Well n (apply l c) := by
 unfold Ok at hc
 unfold Dk.apply
 by_cases hb : c.b ≠ []
 ·rw [if_pos hb] at hc ⊢
  obtain ⟨f, hf, hne⟩ := hc
  rw [hf]
  have hm := (look_some h.asc).1 hf
  refine (h.wo c.a).wi (c.b, f) (h.lim (c.a, f) hm) fun y hy e => ?_
  have h1 := mem_wo.1 hy
  have h2 := mem_wo.1 h1.1
  exact h2.2 (congrArg Prod.fst (h.inj h2.1 hm e))
 ·rw [if_neg hb] at hc ⊢
  by_cases hf : c.f < 0
  ·rw [if_pos hf]; exact h.wo _
  ·rw [if_neg hf] at hc ⊢
   exact h.wi _ hc.2.1 fun y hy => hc.2.2 y (mem_wo.1 hy).1
theorem len_apply (l : Dir) (c : Ch) : (apply l c).length ≤ l.length + 1 := by
 unfold apply
 split
 ·split
  ·omega
  ·next f _ =>
   have := len_wo l c.a
   have := len_wi (wo l c.a) (c.b, f)
   omega
 ·split
  ·have := len_wo l c.a; omega
  ·exact len_wi _ _
def Chain (n : Nat) : Dir → List Ch → Dir → Prop
 | l, [], d => l = d
 | l, c :: cs, d => Ok n l c ∧ Chain n (apply l c) cs d
def fold (l : Dir) (cs : List Ch) : Dir := cs.foldl apply l
theorem Chain.fold {n : Nat} : ∀ {l : Dir} {cs : List Ch} {d : Dir}, Chain n l cs d → d = Dk.fold l cs
 | _, [], _, h => h.symm
 | _, _ :: _, _, h => by
   have := Chain.fold h.2
   exact this
theorem Ok.mono {n m : Nat} {l : Dir} {c : Ch} (h : Ok n l c) (hm : n ≤ m) : Ok m l c := by
 unfold Ok at h ⊢
 split
 ·next hb => rwa [if_pos hb] at h
 ·next hb =>
  rw [if_neg hb] at h
  split
  ·next hf => rwa [if_pos hf] at h
  ·next hf => rw [if_neg hf] at h; exact ⟨h.1, by omega, h.2.2⟩
theorem Chain.mono {n m : Nat} (hm : n ≤ m) : ∀ {l : Dir} {cs : List Ch} {d : Dir}, Chain n l cs d → Chain m l cs d
 | _, [], _, h => h
 | _, _ :: _, _, h => ⟨h.1.mono hm, Chain.mono hm h.2⟩
theorem Chain.snoc {n : Nat} {c : Ch} : ∀ {l : Dir} {cs : List Ch} {d : Dir}, Chain n l cs d → Ok n d c → Chain n l (cs ++ [c]) (apply d c)
 | _, [], _, h, hc => by
   cases h
   exact ⟨hc, rfl⟩
 | _, _ :: _, _, h, hc => ⟨h.1, Chain.snoc h.2 hc⟩
theorem Chain.take {n : Nat} : ∀ {l : Dir} {cs : List Ch} {d : Dir} (k : Nat), Chain n l cs d → Chain n l (cs.take k) (Dk.fold l (cs.take k))
 | _, [], _, k, h => by rw [List.take_nil]; rfl
 | _, _ :: _, _, 0, h => rfl
 | _, c :: cs, _, k + 1, h => ⟨h.1, Chain.take k h.2⟩
theorem Chain.well {n : Nat} : ∀ {l : Dir} {cs : List Ch} {d : Dir}, Well n l → Chain n l cs d → Well n d
 | _, [], _, hw, h => by cases h; exact hw
 | _, _ :: _, _, hw, h => Chain.well (hw.apply h.1) h.2
theorem len_fold : ∀ (cs : List Ch) (l : Dir), (fold l cs).length ≤ l.length + cs.length
 | [], l => by simp [fold]
 | c :: cs, l => by
   have h1 := len_fold cs (apply l c)
   have h2 := len_apply l c
   rw [List.length_cons]
   have : fold l (c :: cs) = fold (apply l c) cs := rfl
   rw [this]
   omega
structure Inv (d : D) : Prop where
 chain : Chain d.files.length d.sure d.chg d.dir
 well : Well d.files.length d.sure
 part : ∀ x ∈ d.files, x.2 ≤ x.1.length
theorem Inv.dir {d : D} (h : Inv d) : Well d.files.length d.dir := h.chain.well h.well
def size (fs : List (Str × Nat)) : Nat := (fs.map fun x => x.1.length).sum
structure Sz (n : Nat) (d : D) : Prop where
 files : d.files.length ≤ n
 dirs : d.sure.length + d.chg.length ≤ n
 bytes : size d.files ≤ n * 1048576
 calls : d.calls ≤ n
theorem Sz.dir {n : Nat} {d : D} (h : Sz n d) (hi : Inv d) : d.dir.length ≤ n := by
 have := len_fold d.chg d.sure
 rw [← hi.chain.fold] at this
 have := h.dirs
 omega
theorem Sz.mono {n m : Nat} {d : D} (h : Sz n d) (hm : n ≤ m) : Sz m d :=
 ⟨Nat.le_trans h.files hm, Nat.le_trans h.dirs hm, Nat.le_trans h.bytes (Nat.mul_le_mul_right _ hm), Nat.le_trans h.calls hm⟩
end Go.Proofs.YtkhiemkekmdhgaaDoor.Dk
