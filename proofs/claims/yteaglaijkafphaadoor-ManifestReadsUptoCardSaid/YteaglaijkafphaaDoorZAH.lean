import Derived.Test.YteaglaijkafphaaDoorZAA
import Derived.Test.YteaglaijkafphaaDoorZAD
import Derived.Test.YteaglaijkafphaaDoorZAG
import Derived.BigQuiet
import Derived.Deep.QuietTactic
import Derived.Laws.ResultCell
namespace Go.Proofs.YteaglaijkafphaaDoor
section
open Go.RowKit
def Mf.pc (p : Mf.P) : List Value := [.int .i64 p.id, .int .i64 p.lv, .bool p.lo.null, .int .i64 p.lo.n, .string p.lo.s, .bool p.hi.null, .int .i64 p.hi.n, .string p.hi.s]
abbrev Mf.cs (p : Mf.P) : Array Value := #[.int .i64 p.id, .int .i64 p.lv, .bool p.lo.null, .int .i64 p.lo.n, .string p.lo.s, .bool p.hi.null, .int .i64 p.hi.n, .string p.hi.s]
abbrev Mf.P.val (p : Mf.P) : Value := .agg (Mf.cs p)
theorem Mf.pc_len (p : Mf.P) : (Mf.pc p).length = 8 := rfl
theorem Mf.pc_one (p : Mf.P) : ∀ u ∈ Mf.pc p, u.oneCell' = true := by
 intro u hu
 simp only [Mf.pc, List.mem_cons, List.not_mem_nil, or_false] at hu
 rcases hu with rfl | rfl | rfl | rfl | rfl | rfl | rfl | rfl <;> rfl
def Mf.ic (x : Int) : List Value := [.int .i64 x]
theorem Mf.ic_len (x : Int) : (Mf.ic x).length = 1 := rfl
theorem Mf.ic_one (x : Int) : ∀ u ∈ Mf.ic x, u.oneCell' = true := by
 intro u hu
 obtain rfl : u = .int .i64 x := by simpa [Mf.ic] using hu
 rfl
def Mf.At {α : Type} (k : Nat) (enc : α → List Value) (w : World) (v : Value) (L : List α) : Prop :=
 ∃ a c, v = .slice a L.length c ∧ L.length ≤ c ∧ ((L = [] ∧ (a = none → c = 0)) ∨ ∃ (b o : Nat) (cs : Array Value) (fr : TypeId × (Nat × Nat)), a = some ⟨b, o, none⟩ ∧ True ∧ w.heap[b]? = some (.cells cs fr.1 fr.2) ∧ ∀ i j x, L[i]? = some x → j < k → w.cell? ⟨b, o + i * k + j, none⟩ = (enc x)[j]?)
theorem Mf.At.of {α : Type} {P : Nat → Prop} {e : TypeId} {k : Nat} {enc : α → List Value} {w : World} {v : Value} {L : List α} (h : Dk.At P e k enc w v L) : Mf.At k enc w v L := by
 obtain ⟨a, c, hv, hc, h⟩ := h
 refine ⟨a, c, hv, hc, ?_⟩
 rcases h with h | ⟨b, o, cs, fr, ha, hP, hb, h⟩
 ·exact .inl h
 ·exact .inr ⟨b, o, cs, (e, fr), ha, trivial, hb, h⟩
theorem Mf.At.nil {α : Type} {k : Nat} {enc : α → List Value} (w : World) : Mf.At k enc w (.slice none 0 0) ([] : List α) := ⟨none, 0, rfl, Nat.le_refl _, .inl ⟨rfl, fun _ => rfl⟩⟩
theorem Mf.At.lt {α : Type} {k : Nat} {enc : α → List Value} {w : World} {v : Value} {L : List α} (h : Mf.At k enc w v L) (hL : L ≠ []) {b : Nat} (hb : v.ownBlock = some b) : b < w.heap.size := by
 obtain ⟨a, c, rfl, _, h⟩ := h
 rcases h with ⟨h, _⟩ | ⟨q, o, cs, fr, rfl, _, hq, _⟩
 ·exact absurd h hL
 ·obtain rfl : q = b := by simpa [Value.ownBlock] using hb
  exact lt_of_block hq
theorem Mf.At.stay {α : Type} {k : Nat} {enc : α → List Value} {w w' : World} {v : Value} {L : List α} (h : Mf.At k enc w v L) (g : L ≠ [] → ∀ b, v.ownBlock = some b → b < w.heap.size → w'.heap[b]? = w.heap[b]?) : Mf.At k enc w' v L := by
 by_cases hL : L = []
 ·obtain ⟨a, c, hv, hc, h⟩ := h
  refine ⟨a, c, hv, hc, ?_⟩
  rcases h with h | ⟨b, o, cs, fr, ha, _, hb, h⟩
  ·exact .inl h
  ·exact .inl ⟨hL, fun e => by rw [ha] at e; cases e⟩
 ·obtain ⟨a, c, hv, hc, h⟩ := h
  refine ⟨a, c, hv, hc, ?_⟩
  rcases h with h | ⟨b, o, cs, fr, ha, _, hb, h⟩
  ·exact .inl h
  ·have hs := g hL b (by rw [hv, ha]; rfl) (lt_of_block hb)
   exact .inr ⟨b, o, cs, fr, ha, trivial, hs.trans hb, fun i j x hi hj => (World.cell?_of_block (a := ⟨b, o + i * k + j, none⟩) hs).trans (h i j x hi hj)⟩
theorem Mf.At.kept {α : Type} {k : Nat} {enc : α → List Value} {w w' : World} {v : Value} {L : List α} (h : Mf.At k enc w v L) (g : Below w.heap.size w w') : Mf.At k enc w' v L := h.stay fun _ b _ hb => g.block b hb
def Mf.Ps (w : World) (v : Value) (L : List Mf.P) : Prop := Mf.At 8 Mf.pc w v L
def Mf.Is (w : World) (v : Value) (L : List Int) : Prop := Mf.At 1 Mf.ic w v L
theorem Mf.Ps.kept {w w' : World} {v : Value} {L : List Mf.P} (h : Mf.Ps w v L) (g : Below w.heap.size w w') : Mf.Ps w' v L := Mf.At.kept h g
theorem Mf.Is.kept {w w' : World} {v : Value} {L : List Int} (h : Mf.Is w v L) (g : Below w.heap.size w w') : Mf.Is w' v L := Mf.At.kept h g
structure Mf.PA (w : World) (b o : Nat) (p : Mf.P) : Prop where
 c0 : w.cell? ⟨b, o, none⟩ = some (.int .i64 p.id)
 c1 : w.cell? ⟨b, o + 1, none⟩ = some (.int .i64 p.lv)
 c2 : w.cell? ⟨b, o + 2, none⟩ = some (.bool p.lo.null)
 c3 : w.cell? ⟨b, o + 3, none⟩ = some (.int .i64 p.lo.n)
 c4 : w.cell? ⟨b, o + 4, none⟩ = some (.string p.lo.s)
 c5 : w.cell? ⟨b, o + 5, none⟩ = some (.bool p.hi.null)
 c6 : w.cell? ⟨b, o + 6, none⟩ = some (.int .i64 p.hi.n)
 c7 : w.cell? ⟨b, o + 7, none⟩ = some (.string p.hi.s)
theorem Mf.PA.lt {w : World} {b o : Nat} {p : Mf.P} (h : Mf.PA w b o p) : b < w.heap.size := World.block_lt_of_cell? w _ h.c0
theorem Mf.PA.kept {w w' : World} {b o : Nat} {p : Mf.P} (h : Mf.PA w b o p) (g : Below w.heap.size w w') : Mf.PA w' b o p :=
 ⟨(g.cell (p := ⟨b, o, none⟩) h.lt).trans h.c0, (g.cell (p := ⟨b, o + 1, none⟩) h.lt).trans h.c1, (g.cell (p := ⟨b, o + 2, none⟩) h.lt).trans h.c2, (g.cell (p := ⟨b, o + 3, none⟩) h.lt).trans h.c3, (g.cell (p := ⟨b, o + 4, none⟩) h.lt).trans h.c4, (g.cell (p := ⟨b, o + 5, none⟩) h.lt).trans h.c5, (g.cell (p := ⟨b, o + 6, none⟩) h.lt).trans h.c6, (g.cell (p := ⟨b, o + 7, none⟩) h.lt).trans h.c7⟩
theorem Mf.PA.new (w : World) (p : Mf.P) (t : TypeId) : Mf.PA (w.alloc (.cells (Mf.cs p) t)) w.heap.size 0 p :=
 ⟨Kn.cell_new w _ t 0 _ rfl, Kn.cell_new w _ t 1 _ rfl, Kn.cell_new w _ t 2 _ rfl, Kn.cell_new w _ t 3 _ rfl, Kn.cell_new w _ t 4 _ rfl, Kn.cell_new w _ t 5 _ rfl, Kn.cell_new w _ t 6 _ rfl, Kn.cell_new w _ t 7 _ rfl⟩
theorem Mf.Ps.part {w : World} {b o : Nat} {L : List Mf.P} (h : ∀ i j x, L[i]? = some x → j < 8 → w.cell? ⟨b, o + i * 8 + j, none⟩ = (Mf.pc x)[j]?) {i : Nat} {p : Mf.P} (hi : L[i]? = some p) : Mf.PA w b (o + i * 8) p :=
 ⟨by have := h i 0 p hi (by decide); rwa [Nat.add_zero] at this, h i 1 p hi (by decide), h i 2 p hi (by decide), h i 3 p hi (by decide), h i 4 p hi (by decide), h i 5 p hi (by decide), h i 6 p hi (by decide), h i 7 p hi (by decide)⟩
theorem Mf.Is.num {w : World} {b o : Nat} {L : List Int} (h : ∀ i j x, L[i]? = some x → j < 1 → w.cell? ⟨b, o + i * 1 + j, none⟩ = (Mf.ic x)[j]?) {i : Nat} {x : Int} (hi : L[i]? = some x) : w.cell? ⟨b, o + i, none⟩ = some (.int .i64 x) := by
 have := h i 0 x hi (by decide)
 rwa [Nat.add_zero, Nat.mul_one] at this
def Mf.up (most n : Int) : Bool := decide (0 ≤ n) && decide (n ≤ most)
set_option maxHeartbeats 400000 in
theorem Mf.upTo_c (most n : Int) (w : World) : Calls Tryd.prog 42 #[.int .i64 most, .int .i64 n] w fun e w' => e = .returned (.bool (Mf.up most n)) ∧ w' = w := by
 by_cases h0 : 0 ≤ n
 ·by_cases h1 : n ≤ most
  ·have HU : Hid (Mf.up most n = true) := Lib.hid (by simp [Mf.up, h0, h1])
   go_enter Tryd.func42, Tryd.ntmps42
   go_wp2
   go_ret
   exact ⟨by rw [HU.out]; rfl, rfl⟩
  ·have HU : Hid (Mf.up most n = false) := Lib.hid (by simp [Mf.up, h1])
   go_enter Tryd.func42, Tryd.ntmps42
   go_wp2
   go_ret
   exact ⟨by rw [HU.out]; rfl, rfl⟩
 ·have HU : Hid (Mf.up most n = false) := Lib.hid (by simp [Mf.up, h0])
  go_enter Tryd.func42, Tryd.ntmps42
  go_wp2
  go_ret
  exact ⟨by rw [HU.out]; rfl, rfl⟩
set_option maxHeartbeats 400000 in
theorem Mf.rnumber_c (n : Int) (w : World) : Calls Tryd.prog 62 #[.int .i64 n] w fun e w' => e = .returned (.bool (Mf.nm n)) ∧ w' = w := by
 by_cases h0 : 0 ≤ n
 ·by_cases h1 : n ≤ 999999999
  ·have HU : Hid (Mf.nm n = true) := Lib.hid (by simp [Mf.nm, h0, h1])
   go_enter Tryd.func62, Tryd.ntmps62
   go_wp2
   go_ret
   exact ⟨by rw [HU.out]; rfl, rfl⟩
  ·have HU : Hid (Mf.nm n = false) := Lib.hid (by simp [Mf.nm, h1])
   go_enter Tryd.func62, Tryd.ntmps62
   go_wp2
   go_ret
   exact ⟨by rw [HU.out]; rfl, rfl⟩
 ·have HU : Hid (Mf.nm n = false) := Lib.hid (by simp [Mf.nm, h0])
  go_enter Tryd.func62, Tryd.ntmps62
  go_wp2
  go_ret
  exact ⟨by rw [HU.out]; rfl, rfl⟩
theorem Mf.key_ways (v : Kn.V) : (v.null = true ∧ Mf.key v = false) ∨ (v.null = false ∧ v.s.size ≤ 64 ∧ Mf.key v = true) ∨ (v.null = false ∧ ¬ v.s.size ≤ 64 ∧ Mf.key v = false) := by
 unfold Mf.key
 cases v.null
 ·by_cases h : v.s.size ≤ 64
  ·exact .inr (.inl ⟨rfl, h, by simp [h]⟩)
  ·exact .inr (.inr ⟨rfl, h, by simp [h]⟩)
 ·exact .inl ⟨rfl, by simp⟩
set_option maxHeartbeats 1000000 in
set_option maxRecDepth 100000 in
theorem Mf.rightBound_c (v : Kn.V) (w : World) : Calls Tryd.prog 64 #[v.val] w fun e w' => e = .returned (.bool (Mf.key v)) ∧ Below w.heap.size w w' := by
 have hw := Mf.key_ways v
 obtain ⟨v0, v1, v2⟩ := Kn.At.new w v 42
 have HB : Hid (Below w.heap.size w (w.alloc (.cells #[.bool v.null, .int .i64 v.n, .string v.s] 42))) := Lib.hid ((Below.refl _ w).alloc (Nat.le_refl _) _)
 obtain ⟨vn, vi, sv⟩ := v
 unfold Kn.V.val
 simp only at hw v0 v1 v2 HB ⊢
 rcases hw with ⟨rfl, h⟩ | ⟨rfl, h1, h⟩ | ⟨rfl, h1, h⟩
 ·rw [h]
  clear h
  go_enter Tryd.func64, Tryd.ntmps64
  go_wp2
  go_ret
  exact ⟨rfl, HB.out⟩
 ·rw [h]
  have h2 : ((sv.size : Nat) : Int) ≤ 64 := by omega
  clear h
  go_enter Tryd.func64, Tryd.ntmps64
  go_wp2
  go_ret
  exact ⟨rfl, HB.out⟩
 ·rw [h]
  have h2 : ¬ ((sv.size : Nat) : Int) ≤ 64 := by omega
  clear h
  go_enter Tryd.func64, Tryd.ntmps64
  go_wp2
  go_ret
  exact ⟨rfl, HB.out⟩
set_option maxHeartbeats 1000000 in
set_option maxRecDepth 100000 in
theorem Mf.rkey_c (v : Kn.V) (w : World) : Calls Tryd.prog 85 #[v.val] w fun e w' => e = .returned (.bool (Mf.key v)) ∧ Below w.heap.size w w' := by
 have hw := Mf.key_ways v
 obtain ⟨v0, v1, v2⟩ := Kn.At.new w v 42
 have HB : Hid (Below w.heap.size w (w.alloc (.cells #[.bool v.null, .int .i64 v.n, .string v.s] 42))) := Lib.hid ((Below.refl _ w).alloc (Nat.le_refl _) _)
 obtain ⟨vn, vi, sv⟩ := v
 unfold Kn.V.val
 simp only at hw v0 v1 v2 HB ⊢
 rcases hw with ⟨rfl, h⟩ | ⟨rfl, h1, h⟩ | ⟨rfl, h1, h⟩
 ·rw [h]
  clear h
  go_enter Tryd.func85, Tryd.ntmps85
  go_wp2
  go_ret
  exact ⟨rfl, HB.out⟩
 ·rw [h]
  have h2 : ((sv.size : Nat) : Int) ≤ 64 := by omega
  clear h
  go_enter Tryd.func85, Tryd.ntmps85
  go_wp2
  go_ret
  exact ⟨rfl, HB.out⟩
 ·rw [h]
  have h2 : ¬ ((sv.size : Nat) : Int) ≤ 64 := by omega
  clear h
  go_enter Tryd.func85, Tryd.ntmps85
  go_wp2
  go_ret
  exact ⟨rfl, HB.out⟩
theorem Mf.part_ways (p : Mf.P) : (Mf.up 999999999 p.id = false ∧ Mf.part p = false) ∨ (Mf.up 999999999 p.id = true ∧ Mf.up 3 p.lv = false ∧ Mf.part p = false) ∨ (Mf.up 999999999 p.id = true ∧ Mf.up 3 p.lv = true ∧ Mf.key p.lo = false ∧ Mf.part p = false)
 ∨ (Mf.up 999999999 p.id = true ∧ Mf.up 3 p.lv = true ∧ Mf.key p.lo = true ∧ Mf.key p.hi = false ∧ Mf.part p = false) ∨ (Mf.up 999999999 p.id = true ∧ Mf.up 3 p.lv = true ∧ Mf.key p.lo = true ∧ Mf.key p.hi = true ∧ Mf.part p = decide (Kn.cmp p.lo p.hi ≤ 0)) := by
 have e1 : Mf.nm p.id = Mf.up 999999999 p.id := rfl
 have e2 : (decide (0 ≤ p.lv) && decide (p.lv ≤ 3)) = Mf.up 3 p.lv := rfl
 unfold Mf.part
 rw [e1, e2]
 cases Mf.up 999999999 p.id <;> cases Mf.up 3 p.lv <;> cases Mf.key p.lo <;> cases Mf.key p.hi <;> simp
set_option maxHeartbeats 2000000 in
set_option maxRecDepth 100000 in
theorem Mf.rightPart_c (p : Mf.P) (w : World) : Calls Tryd.prog 43 #[p.val] w fun e w' => e = .returned (.bool (Mf.part p)) ∧ Below w.heap.size w w' := by
 have hw := Mf.part_ways p
 have hp := Mf.PA.new w p 44
 have hb : Below w.heap.size w (w.alloc (.cells (Mf.cs p) 44)) := (Below.refl _ w).alloc (Nat.le_refl _) _
 have CU := Lib.hid fun (W : World) => Mf.upTo_c 999999999 p.id W
 have CL := Lib.hid fun (W : World) => Mf.upTo_c 3 p.lv W
 have CA := Lib.hid fun (W : World) => Mf.rightBound_c p.lo W
 have CB := Lib.hid fun (W : World) => Mf.rightBound_c p.hi W
 have CC := Lib.hid fun (W : World) => Kn.compare_c p.lo p.hi W
 have HB := Lib.hid hb
 have HP := Lib.hid hp
 obtain ⟨p0, p1, p2, p3, p4, p5, p6, p7⟩ := hp
 obtain ⟨id, lv, ⟨an, ai, sa⟩, ⟨bn, bi, sb⟩⟩ := p
 unfold Kn.V.val at CA CB CC
 simp only at hw HB HP p0 p1 p2 p3 p4 p5 p6 p7 CU CL CA CB CC ⊢
 unfold Mf.P.val Mf.cs
 unfold Mf.cs at HB HP p0 p1 p2 p3 p4 p5 p6 p7
 simp only at HB HP p0 p1 p2 p3 p4 p5 p6 p7 ⊢
 clear hb
 generalize Mf.up 999999999 id = U1 at hw CU
 generalize Mf.up 3 lv = U2 at hw CL
 generalize Mf.key ⟨an, ai, sa⟩ = U3 at hw CA
 generalize Mf.key ⟨bn, bi, sb⟩ = U4 at hw CB
 generalize Mf.part ⟨id, lv, ⟨an, ai, sa⟩, ⟨bn, bi, sb⟩⟩ = U5 at hw ⊢
 rcases hw with ⟨rfl, rfl⟩ | ⟨rfl, rfl, rfl⟩ | ⟨rfl, rfl, rfl, rfl⟩ | ⟨rfl, rfl, rfl, rfl, rfl⟩ | ⟨rfl, rfl, rfl, rfl, hw⟩
 ·go_enter Tryd.func43, Tryd.ntmps43
  go_wp2_with fail
  with_reducible refine (CU.out _).mono ?_
  rintro e w1 ⟨rfl, rfl⟩
  go_wp2
  go_ret
  exact ⟨rfl, HB.out⟩
 ·go_enter Tryd.func43, Tryd.ntmps43
  go_wp2_with fail
  with_reducible refine (CU.out _).mono ?_
  rintro e w1 ⟨rfl, rfl⟩
  go_wp2_with fail
  with_reducible refine (CL.out _).mono ?_
  rintro e w1 ⟨rfl, rfl⟩
  go_wp2
  go_ret
  exact ⟨rfl, HB.out⟩
 ·go_enter Tryd.func43, Tryd.ntmps43
  go_wp2_with fail
  with_reducible refine (CU.out _).mono ?_
  rintro e w1 ⟨rfl, rfl⟩
  go_wp2_with fail
  with_reducible refine (CL.out _).mono ?_
  rintro e w1 ⟨rfl, rfl⟩
  go_wp2_with fail
  with_reducible refine (CA.out _).mono ?_
  rintro e w1 ⟨rfl, g1⟩
  go_wp2
  go_ret
  exact ⟨rfl, HB.out.trans (g1.mono HB.out.size)⟩
 ·go_enter Tryd.func43, Tryd.ntmps43
  go_wp2_with fail
  with_reducible refine (CU.out _).mono ?_
  rintro e w1 ⟨rfl, rfl⟩
  go_wp2_with fail
  with_reducible refine (CL.out _).mono ?_
  rintro e w1 ⟨rfl, rfl⟩
  go_wp2_with fail
  with_reducible refine (CA.out _).mono ?_
  rintro e w1 ⟨rfl, g1⟩
  have HB1 := Lib.hid (HB.out.trans (g1.mono HB.out.size))
  obtain ⟨q0, q1, q2, q3, q4, q5, q6, q7⟩ := HP.out.kept g1
  clear p0 p1 p2 p3 p4 p5 p6 p7 g1
  go_wp2_with fail
  with_reducible refine (CB.out _).mono ?_
  rintro e w2 ⟨rfl, g2⟩
  go_wp2
  go_ret
  exact ⟨rfl, HB1.out.trans (g2.mono HB1.out.size)⟩
 ·rw [hw]
  clear hw
  go_enter Tryd.func43, Tryd.ntmps43
  go_wp2_with fail
  with_reducible refine (CU.out _).mono ?_
  rintro e w1 ⟨rfl, rfl⟩
  go_wp2_with fail
  with_reducible refine (CL.out _).mono ?_
  rintro e w1 ⟨rfl, rfl⟩
  go_wp2_with fail
  with_reducible refine (CA.out _).mono ?_
  rintro e w1 ⟨rfl, g1⟩
  have HB1 := Lib.hid (HB.out.trans (g1.mono HB.out.size))
  have HP1 := Lib.hid (HP.out.kept g1)
  obtain ⟨q0, q1, q2, q3, q4, q5, q6, q7⟩ := HP.out.kept g1
  clear p0 p1 p2 p3 p4 p5 p6 p7 g1
  go_wp2_with fail
  with_reducible refine (CB.out _).mono ?_
  rintro e w2 ⟨rfl, g2⟩
  have HB2 := Lib.hid (HB1.out.trans (g2.mono HB1.out.size))
  obtain ⟨p0, p1, p2, p3, p4, p5, p6, p7⟩ := HP1.out.kept g2
  clear q0 q1 q2 q3 q4 q5 q6 q7 g2
  go_wp2_with fail
  with_reducible refine (CC.out _).mono ?_
  rintro e w3 ⟨rfl, g3⟩
  go_wp2
  go_ret
  exact ⟨rfl, HB2.out.trans (g3.mono HB2.out.size)⟩
end
section
open Go.RowKit
theorem Mf.cmp_turn (a b : Kn.V) : (!decide (Kn.cmp b a < 0)) = decide (Kn.cmp a b ≤ 0) := by
 have h := Kn.cmp_fair a b a
 have h1 := h.xa
 by_cases hc : Kn.cmp b a < 0
 ·rw [decide_eq_true hc, decide_eq_false (by omega)]; rfl
 ·rw [decide_eq_false hc, decide_eq_true (by omega)]; rfl
theorem Mf.rpart_ways (p : Mf.P) : (Mf.nm p.id = false ∧ Mf.part p = false) ∨ (Mf.nm p.id = true ∧ ¬ 0 ≤ p.lv ∧ Mf.part p = false) ∨ (Mf.nm p.id = true ∧ 0 ≤ p.lv ∧ ¬ p.lv < 4 ∧ Mf.part p = false) ∨ (Mf.nm p.id = true ∧ 0 ≤ p.lv ∧ p.lv < 4 ∧ Mf.key p.lo = false ∧ Mf.part p = false)
 ∨ (Mf.nm p.id = true ∧ 0 ≤ p.lv ∧ p.lv < 4 ∧ Mf.key p.lo = true ∧ Mf.key p.hi = false ∧ Mf.part p = false) ∨ (Mf.nm p.id = true ∧ 0 ≤ p.lv ∧ p.lv < 4 ∧ Mf.key p.lo = true ∧ Mf.key p.hi = true ∧ Mf.part p = !decide (Kn.cmp p.hi p.lo < 0) ∧ Kn.Z p.lo ∧ Kn.Z p.hi) := by
 have hz : ∀ v, Mf.key v = true → Kn.Z v := fun v h => by
  unfold Mf.key at h
  simp only [Bool.and_eq_true, decide_eq_true_iff] at h
  have := h.2
  unfold Kn.Z
  omega
 rw [Mf.cmp_turn]
 by_cases h0 : 0 ≤ p.lv
 ·by_cases h4 : p.lv < 4
  ·have h3 : p.lv ≤ 3 := by omega
   have e : Mf.part p = (Mf.nm p.id && Mf.key p.lo && Mf.key p.hi && decide (Kn.cmp p.lo p.hi ≤ 0)) := by unfold Mf.part; rw [decide_eq_true h0, decide_eq_true h3, Bool.and_self, Bool.and_true]
   rw [e]
   cases hn : Mf.nm p.id
   ·exact .inl ⟨rfl, by simp⟩
   ·cases ha : Mf.key p.lo
    ·exact .inr (.inr (.inr (.inl ⟨rfl, h0, h4, rfl, by simp⟩)))
    ·cases hb : Mf.key p.hi
     ·exact .inr (.inr (.inr (.inr (.inl ⟨rfl, h0, h4, rfl, rfl, by simp⟩))))
     ·exact .inr (.inr (.inr (.inr (.inr ⟨rfl, h0, h4, rfl, rfl, by simp, hz _ ha, hz _ hb⟩))))
  ·have e : Mf.part p = false := by unfold Mf.part; rw [decide_eq_false (show ¬ p.lv ≤ 3 by omega)]; simp
   rw [e]
   cases hn : Mf.nm p.id
   ·exact .inl ⟨rfl, rfl⟩
   ·exact .inr (.inr (.inl ⟨rfl, h0, h4, rfl⟩))
 ·have e : Mf.part p = false := by unfold Mf.part; rw [decide_eq_false h0]; simp
  rw [e]
  cases hn : Mf.nm p.id
  ·exact .inl ⟨rfl, rfl⟩
  ·exact .inr (.inl ⟨rfl, h0, rfl⟩)
set_option maxHeartbeats 2000000 in
set_option maxRecDepth 100000 in
theorem Mf.rpart_c (p : Mf.P) (w : World) : Calls Tryd.prog 63 #[p.val] w fun e w' => e = .returned (.bool (Mf.part p)) ∧ Below w.heap.size w w' := by
 have hw := Mf.rpart_ways p
 have hp := Mf.PA.new w p 44
 have hb : Below w.heap.size w (w.alloc (.cells (Mf.cs p) 44)) := (Below.refl _ w).alloc (Nat.le_refl _) _
 have CU := Lib.hid fun (W : World) => Mf.rnumber_c p.id W
 have CA := Lib.hid fun (W : World) => Mf.rkey_c p.lo W
 have CB := Lib.hid fun (W : World) => Mf.rkey_c p.hi W
 have CC := Lib.hid fun (h1 : Kn.Z p.hi) (h2 : Kn.Z p.lo) (W : World) => Kn.rAhead_c p.hi p.lo h1 h2 W
 have HB := Lib.hid hb
 have HP := Lib.hid hp
 obtain ⟨p0, p1, p2, p3, p4, p5, p6, p7⟩ := hp
 obtain ⟨id, lv, ⟨an, ai, sa⟩, ⟨bn, bi, sb⟩⟩ := p
 unfold Kn.V.val at CA CB CC
 simp only at hw HB HP p0 p1 p2 p3 p4 p5 p6 p7 CU CA CB CC ⊢
 unfold Mf.P.val Mf.cs
 unfold Mf.cs at HB HP p0 p1 p2 p3 p4 p5 p6 p7
 simp only at HB HP p0 p1 p2 p3 p4 p5 p6 p7 ⊢
 clear hb
 generalize Mf.nm id = U1 at hw CU
 generalize Mf.key ⟨an, ai, sa⟩ = U3 at hw CA
 generalize Mf.key ⟨bn, bi, sb⟩ = U4 at hw CB
 generalize Mf.part ⟨id, lv, ⟨an, ai, sa⟩, ⟨bn, bi, sb⟩⟩ = U5 at hw ⊢
 rcases hw with ⟨rfl, rfl⟩ | ⟨rfl, h0, rfl⟩ | ⟨rfl, h0, h4, rfl⟩ | ⟨rfl, h0, h4, rfl, rfl⟩ | ⟨rfl, h0, h4, rfl, rfl, rfl⟩ | ⟨rfl, h0, h4, rfl, rfl, hw, hz1, hz2⟩
 ·go_enter Tryd.func63, Tryd.ntmps63
  go_wp2_with fail
  with_reducible refine (CU.out _).mono ?_
  rintro e w1 ⟨rfl, rfl⟩
  go_wp2
  go_ret
  exact ⟨rfl, HB.out⟩
 ·go_enter Tryd.func63, Tryd.ntmps63
  go_wp2_with fail
  with_reducible refine (CU.out _).mono ?_
  rintro e w1 ⟨rfl, rfl⟩
  go_wp2
  go_ret
  exact ⟨rfl, HB.out⟩
 ·go_enter Tryd.func63, Tryd.ntmps63
  go_wp2_with fail
  with_reducible refine (CU.out _).mono ?_
  rintro e w1 ⟨rfl, rfl⟩
  go_wp2
  go_ret
  exact ⟨rfl, HB.out⟩
 ·go_enter Tryd.func63, Tryd.ntmps63
  go_wp2_with fail
  with_reducible refine (CU.out _).mono ?_
  rintro e w1 ⟨rfl, rfl⟩
  go_wp2_with fail
  with_reducible refine (CA.out _).mono ?_
  rintro e w1 ⟨rfl, g1⟩
  go_wp2
  go_ret
  exact ⟨rfl, HB.out.trans (g1.mono HB.out.size)⟩
 ·go_enter Tryd.func63, Tryd.ntmps63
  go_wp2_with fail
  with_reducible refine (CU.out _).mono ?_
  rintro e w1 ⟨rfl, rfl⟩
  go_wp2_with fail
  with_reducible refine (CA.out _).mono ?_
  rintro e w1 ⟨rfl, g1⟩
  have HB1 := Lib.hid (HB.out.trans (g1.mono HB.out.size))
  obtain ⟨q0, q1, q2, q3, q4, q5, q6, q7⟩ := HP.out.kept g1
  clear p0 p1 p2 p3 p4 p5 p6 p7 g1
  go_wp2_with fail
  with_reducible refine (CB.out _).mono ?_
  rintro e w2 ⟨rfl, g2⟩
  go_wp2
  go_ret
  exact ⟨rfl, HB1.out.trans (g2.mono HB1.out.size)⟩
 ·rw [hw]
  have CZ := Lib.hid (CC.out hz2 hz1)
  clear hw hz1 hz2 CC
  generalize decide (Kn.cmp _ _ < 0) = X at CZ ⊢
  go_enter Tryd.func63, Tryd.ntmps63
  go_wp2_with fail
  with_reducible refine (CU.out _).mono ?_
  rintro e w1 ⟨rfl, rfl⟩
  go_wp2_with fail
  with_reducible refine (CA.out _).mono ?_
  rintro e w1 ⟨rfl, g1⟩
  have HB1 := Lib.hid (HB.out.trans (g1.mono HB.out.size))
  have HP1 := Lib.hid (HP.out.kept g1)
  obtain ⟨q0, q1, q2, q3, q4, q5, q6, q7⟩ := HP.out.kept g1
  clear p0 p1 p2 p3 p4 p5 p6 p7 g1
  go_wp2_with fail
  with_reducible refine (CB.out _).mono ?_
  rintro e w2 ⟨rfl, g2⟩
  have HB2 := Lib.hid (HB1.out.trans (g2.mono HB1.out.size))
  obtain ⟨p0, p1, p2, p3, p4, p5, p6, p7⟩ := HP1.out.kept g2
  clear q0 q1 q2 q3 q4 q5 q6 q7 g2
  go_wp2_with fail
  with_reducible refine (CZ.out _).mono ?_
  rintro e w3 ⟨rfl, g3⟩
  go_wp2
  go_ret
  exact ⟨rfl, HB2.out.trans (g3.mono HB2.out.size)⟩
structure Mf.EA (w : World) (b : Nat) (vd va : Value) (f n : Int) : Prop where
 c0 : w.cell? ⟨b, 0, none⟩ = some vd
 c1 : w.cell? ⟨b, 1, none⟩ = some va
 c2 : w.cell? ⟨b, 2, none⟩ = some (.int .i64 f)
 c3 : w.cell? ⟨b, 3, none⟩ = some (.int .i64 n)
theorem Mf.EA.lt {w : World} {b : Nat} {vd va : Value} {f n : Int} (h : Mf.EA w b vd va f n) : b < w.heap.size := World.block_lt_of_cell? w _ h.c0
theorem Mf.EA.kept {w w' : World} {b : Nat} {vd va : Value} {f n : Int} (h : Mf.EA w b vd va f n) (g : Below w.heap.size w w') : Mf.EA w' b vd va f n :=
 ⟨(g.cell (p := ⟨b, 0, none⟩) h.lt).trans h.c0, (g.cell (p := ⟨b, 1, none⟩) h.lt).trans h.c1, (g.cell (p := ⟨b, 2, none⟩) h.lt).trans h.c2, (g.cell (p := ⟨b, 3, none⟩) h.lt).trans h.c3⟩
theorem Mf.EA.new (w : World) (vd va : Value) (f n : Int) (t : TypeId) : Mf.EA (w.alloc (.cells #[vd, va, .int .i64 f, .int .i64 n] t)) w.heap.size vd va f n :=
 ⟨Kn.cell_new w _ t 0 _ rfl, Kn.cell_new w _ t 1 _ rfl, Kn.cell_new w _ t 2 _ rfl, Kn.cell_new w _ t 3 _ rfl⟩
theorem Mf.all_take {α : Type} {L : List α} {q : α → Bool} {k : Nat} {x : α} (hx : L[k]? = some x) (h : (L.take k).all q = true) (hq : q x = true) : (L.take (k + 1)).all q = true := by
 obtain ⟨hk, rfl⟩ := List.getElem?_eq_some_iff.1 hx
 rw [List.take_add_one, hx, List.all_append, h]
 simp [hq]
theorem Mf.all_not {α : Type} {L : List α} {q : α → Bool} {k : Nat} {x : α} (hx : L[k]? = some x) (hq : q x = false) : L.all q = false := by
 rw [List.all_eq_false]
 exact ⟨x, List.mem_of_getElem? hx, by rw [hq]; decide⟩
theorem Mf.right_d {e : Mf.E} (h : e.drop.all Mf.nm = false) : Mf.right e = false := by unfold Mf.right; rw [h]; simp
theorem Mf.right_a {e : Mf.E} (h : e.add.all Mf.part = false) : Mf.right e = false := by unfold Mf.right; rw [h]; simp
theorem Mf.right_fn {e : Mf.E} (h1 : e.drop.length ≤ 1000) (h2 : e.add.length ≤ 1000) (h3 : e.drop.all Mf.nm = true) (h4 : e.add.all Mf.part = true) : Mf.right e = (Mf.nm e.floor && Mf.nm e.next) := by
 unfold Mf.right
 rw [h3, h4, decide_eq_true h1, decide_eq_true h2]
 simp
theorem Mf.right_l {e : Mf.E} (h : ¬ e.drop.length ≤ 1000 ∨ ¬ e.add.length ≤ 1000) : Mf.right e = false := by
 unfold Mf.right
 rcases h with h | h <;> rw [decide_eq_false h] <;> simp
set_option maxHeartbeats 8000000 in
set_option maxRecDepth 100000 in
theorem Mf.rightEdit_c (vd va : Value) (e : Mf.E) (w : World) (hd : Mf.Is w vd e.drop) (ha : Mf.Ps w va e.add) :
 Calls Tryd.prog 20 #[.agg #[vd, va, .int .i64 e.floor, .int .i64 e.next]] w fun r w' => r = .returned (.bool (Mf.right e)) ∧ Below w.heap.size w w' := by
 have hE := Mf.EA.new w vd va e.floor e.next 37
 have hb : Below w.heap.size w (w.alloc (.cells #[vd, va, .int .i64 e.floor, .int .i64 e.next] 37)) := (Below.refl _ w).alloc (Nat.le_refl _) _
 have hd1 := hd.kept hb
 have ha1 := ha.kept hb
 have HRL := Lib.hid (Mf.right_l (e := e))
 have HRD := Lib.hid (Mf.right_d (e := e))
 have HRA := Lib.hid (Mf.right_a (e := e))
 have HRF := Lib.hid (Mf.right_fn (e := e))
 obtain ⟨D, A, fl, nx⟩ := e
 simp only at hE hb hd1 ha1 HRL HRD HRA HRF ⊢
 obtain ⟨ad, cd, rfl, -, hd2⟩ := hd1
 obtain ⟨aa, ca, rfl, -, ha2⟩ := ha1
 have CU := Lib.hid fun (m x : Int) (W : World) => Mf.upTo_c m x W
 have CP := Lib.hid fun (p : Mf.P) (W : World) => Mf.rightPart_c p W
 have HB := Lib.hid hb
 have HE := Lib.hid hE
 have HD := Lib.hid hd2
 have HA : Hid (∀ W, Below (w.alloc (.cells #[.slice ad D.length cd, .slice aa A.length ca, .int .i64 fl, .int .i64 nx] 37)).heap.size (w.alloc (.cells #[.slice ad D.length cd, .slice aa A.length ca, .int .i64 fl, .int .i64 nx] 37)) W → ∀ (i : Nat) (p : Mf.P), A[i]? = some p → ∃ b o, aa = some ⟨b, o, none⟩ ∧ Mf.PA W b (o + i * 8) p) := Lib.hid fun W hW i p hp => by
  rcases ha2 with ⟨h0, -⟩ | ⟨b, o, cs, fr, rfl, -, _, h⟩
  ·rw [h0] at hp; cases hp
  ·exact ⟨b, o, rfl, (Mf.Ps.part h hp).kept hW⟩
 obtain ⟨e0, e1, e2, e3⟩ := hE
 clear hd ha hd2 ha2 hb
 generalize Mf.right ⟨D, A, fl, nx⟩ = R at HRL HRD HRA HRF ⊢
 obtain ⟨n1, hn1⟩ : ∃ n1, n1 = D.length := ⟨_, rfl⟩
 obtain ⟨n2, hn2⟩ : ∃ n2, n2 = A.length := ⟨_, rfl⟩
 by_cases hl1 : D.length ≤ 1000
 ·by_cases hl2 : A.length ≤ 1000
  ·have i1 : (D.length : Int) ≤ 1000 := by omega
   have i2 : (A.length : Int) ≤ 1000 := by omega
   have j1 : ¬ (1000 : Int) < (D.length : Int) := by omega
   have j2 : ¬ (1000 : Int) < (A.length : Int) := by omega
   have HRF2 := Lib.hid (HRF.out hl1 hl2)
   clear HRL HRF hl1 hl2
   go_enter Tryd.func20, Tryd.ntmps20
   go_wp2_with fail
   generalize hwo : w.alloc _ = w1 at HB HE HD HA e0 e1 e2 e3 ⊢
   clear hwo
   go_loopw [20] (fun i wr => ∃ k : Nat, k ≤ D.length ∧ i = .int .i64 k ∧ (D.take k).all Mf.nm = true ∧ wr = w1) (fun i _ => D.length - (intOf i).toNat)
   case atStart => exact ⟨0, Nat.zero_le _, rfl, rfl, rfl⟩
   case round =>
    obtain ⟨k, hk, rfl, hall, rfl⟩ := hrel
    have hk0 : (0 : Int) ≤ (k : Int) := by omega
    by_cases hkl : k < D.length
    ·have hx := List.getElem?_eq_getElem hkl
     generalize D[k] = x at hx
     have HX := Lib.hid hx
     have HALL := Lib.hid hall
     rcases HD.out with ⟨h0, -⟩ | ⟨b, o, cs, fr, rfl, -, hbb, hc⟩
     ·rw [h0] at hkl; simp at hkl
     ·have c0 := Mf.Is.num hc hx
      have hki : (k : Int) < (D.length : Int) := by omega
      have cu := CU.out 999999999 x wr
      have hnm : Mf.up 999999999 x = Mf.nm x := rfl
      rw [hnm] at cu
      clear hbb hc hx hall
      cases hq : Mf.nm x
      ·rw [hq] at cu
       have HF := Lib.hid (HRD.out (Mf.all_not HX.out hq))
       clear hnm hq
       go_wp2_with fail
       with_reducible refine cu.mono ?_
       rintro e w2 ⟨rfl, rfl⟩
       go_wp2
       go_ret
       exact ⟨by rw [HF.out]; rfl, HB.out⟩
      ·rw [hq] at cu
       have HN := Lib.hid (Mf.all_take HX.out HALL.out hq)
       clear hnm hq
       go_wp2_with fail
       with_reducible refine cu.mono ?_
       rintro e w2 ⟨rfl, h9⟩
       subst w2
       go_wp2
       go_roundw
       case rel => exact ⟨k + 1, by omega, by simp, HN.out, trivial⟩
       case measure => simp [intOf]; omega
    ·obtain rfl : k = D.length := by omega
     have HALD : Hid (D.all Mf.nm = true) := Lib.hid (by rwa [List.take_length] at hall)
     have hki : ¬ (D.length : Int) < (D.length : Int) := by omega
     clear hk hall hkl HD HRD hk0
     go_wp2_with fail
     go_loopw [31] (fun i w3 => ∃ k : Nat, k ≤ A.length ∧ i = .int .i64 k ∧ (A.take k).all Mf.part = true ∧ Below wr.heap.size wr w3) (fun i _ => A.length - (intOf i).toNat)
     case atStart => exact ⟨0, Nat.zero_le _, rfl, rfl, Below.refl _ _⟩
     case round =>
      obtain ⟨k, hk, rfl, hall, hg⟩ := hrel
      have hk0 : (0 : Int) ≤ (k : Int) := by omega
      have HG := Lib.hid hg
      have HALL := Lib.hid hall
      by_cases hkl : k < A.length
      ·have hx := List.getElem?_eq_getElem hkl
       generalize A[k] = p at hx
       have HX := Lib.hid hx
       obtain ⟨b, o, rfl, hp⟩ := HA.out _ hg k p hx
       obtain ⟨p0, p1, p2, p3, p4, p5, p6, p7⟩ := hp
       have hki : (k : Int) < (A.length : Int) := by omega
       have CPP := Lib.hid (CP.out p)
       have HNO := Lib.hid fun hq => HRA.out (Mf.all_not HX.out hq)
       have HNX := Lib.hid fun hq => Mf.all_take HX.out HALL.out hq
       have HNEW := Lib.hid (fun (W : World) => Mf.PA.new W p 44)
       have HBA : Hid (Below w.heap.size w _) := Lib.hid (HB.out.trans (HG.out.mono HB.out.size))
       obtain ⟨id, lv, ⟨an, ai, sa⟩, ⟨bn, bi, sb⟩⟩ := p
       unfold Mf.P.val Mf.cs at CPP
       unfold Mf.cs at HNEW
       simp only at CPP HNEW p0 p1 p2 p3 p4 p5 p6 p7
       generalize Mf.part ⟨id, lv, ⟨an, ai, sa⟩, ⟨bn, bi, sb⟩⟩ = Q at CPP HNO HNX
       clear hx hall hg HX
       cases Q
       ·have HF := Lib.hid (HNO.out rfl)
        go_wp2_with fail
        with_reducible refine (CPP.out _).mono ?_
        rintro e w4 ⟨rfl, g4⟩
        have HB4 := Lib.hid ((HBA.out.alloc HBA.out.size (.cells #[.int .i64 id, .int .i64 lv, .bool an, .int .i64 ai, .string sa, .bool bn, .int .i64 bi, .string sb] 44)).trans (g4.mono (HBA.out.alloc HBA.out.size _).size))
        go_wp2
        go_ret
        exact ⟨by rw [HF.out]; rfl, HB4.out⟩
       ·have HN := Lib.hid (HNX.out rfl)
        go_wp2_with fail
        with_reducible refine (CPP.out _).mono ?_
        rintro e w4 ⟨rfl, g4⟩
        have HG4 := Lib.hid ((HG.out.alloc HG.out.size (.cells #[.int .i64 id, .int .i64 lv, .bool an, .int .i64 ai, .string sa, .bool bn, .int .i64 bi, .string sb] 44)).trans (g4.mono (HG.out.alloc HG.out.size _).size))
        clear g4
        go_wp2
        go_roundw
        case rel => exact ⟨k + 1, by omega, by simp, HN.out, HG4.out⟩
        case measure => simp [intOf]; omega
      ·obtain rfl : k = A.length := by omega
       have HALA : Hid (A.all Mf.part = true) := Lib.hid (by rwa [List.take_length] at hall)
       have hki : ¬ (A.length : Int) < (A.length : Int) := by omega
       have HFF := Lib.hid (HRF2.out HALD.out HALA.out)
       have HBA : Hid (Below w.heap.size w _) := Lib.hid (HB.out.trans (HG.out.mono HB.out.size))
       obtain ⟨f0, f1, f2, f3⟩ := HE.out.kept hg
       have CF := Lib.hid fun (W : World) => CU.out 999999999 fl W
       have CN := Lib.hid fun (W : World) => CU.out 999999999 nx W
       have hf9 : Mf.up 999999999 fl = Mf.nm fl := rfl
       have hn9 : Mf.up 999999999 nx = Mf.nm nx := rfl
       simp only [hf9, hn9] at CF CN
       clear hf9 hn9 e0 e1 e2 e3 hall hg HRA HA HALA HALD HALL HRF2 hkl hk hk0
       generalize Mf.nm fl = X1 at CF HFF
       generalize Mf.nm nx = X2 at CN HFF
       cases X1
       ·go_wp2_with fail
        with_reducible refine (CF.out _).mono ?_
        rintro e w4 ⟨rfl, h9⟩
        subst w4
        go_wp2
        go_ret
        exact ⟨by rw [HFF.out]; rfl, HBA.out⟩
       ·go_wp2_with fail
        with_reducible refine (CF.out _).mono ?_
        rintro e w4 ⟨rfl, h9⟩
        subst w4
        go_wp2_with fail
        with_reducible refine (CN.out _).mono ?_
        rintro e w4 ⟨rfl, h9⟩
        subst w4
        go_wp2
        go_ret
        exact ⟨by rw [HFF.out]; rfl, HBA.out⟩
  ·have HF := Lib.hid (HRL.out (.inr hl2))
   have j1 : ¬ (1000 : Int) < (D.length : Int) := by omega
   have j2 : (1000 : Int) < (A.length : Int) := by omega
   go_enter Tryd.func20, Tryd.ntmps20
   go_wp2
   go_ret
   exact ⟨by rw [HF.out]; rfl, HB.out⟩
 ·have HF := Lib.hid (HRL.out (.inl hl1))
  have j1 : (1000 : Int) < (D.length : Int) := by omega
  go_enter Tryd.func20, Tryd.ntmps20
  go_wp2
  go_ret
  exact ⟨by rw [HF.out]; rfl, HB.out⟩
end
section
open Go.RowKit
theorem Mf.right_n {e : Mf.E} (h : Mf.nm e.floor = false ∨ Mf.nm e.next = false) : Mf.right e = false := by
 unfold Mf.right
 rcases h with h | h <;> rw [h] <;> simp
set_option maxHeartbeats 8000000 in
set_option maxRecDepth 100000 in
theorem Mf.rright_c (vd va : Value) (e : Mf.E) (w : World) (hd : Mf.Is w vd e.drop) (ha : Mf.Ps w va e.add) :
 Calls Tryd.prog 40 #[.agg #[vd, va, .int .i64 e.floor, .int .i64 e.next]] w fun r w' => r = .returned (.bool (Mf.right e)) ∧ Below w.heap.size w w' := by
 have hE := Mf.EA.new w vd va e.floor e.next 37
 have hb : Below w.heap.size w (w.alloc (.cells #[vd, va, .int .i64 e.floor, .int .i64 e.next] 37)) := (Below.refl _ w).alloc (Nat.le_refl _) _
 have hd1 := hd.kept hb
 have ha1 := ha.kept hb
 have HRL := Lib.hid (Mf.right_l (e := e))
 have HRN := Lib.hid (Mf.right_n (e := e))
 have HRD := Lib.hid (Mf.right_d (e := e))
 have HRA := Lib.hid (Mf.right_a (e := e))
 have HRF := Lib.hid (Mf.right_fn (e := e))
 obtain ⟨D, A, fl, nx⟩ := e
 simp only at hE hb hd1 ha1 HRL HRN HRD HRA HRF ⊢
 obtain ⟨ad, cd, rfl, -, hd2⟩ := hd1
 obtain ⟨aa, ca, rfl, -, ha2⟩ := ha1
 have CU := Lib.hid fun (x : Int) (W : World) => Mf.rnumber_c x W
 have CP := Lib.hid fun (p : Mf.P) (W : World) => Mf.rpart_c p W
 have HB := Lib.hid hb
 have HE := Lib.hid hE
 have HD := Lib.hid hd2
 have HA : Hid (∀ W, Below (w.alloc (.cells #[.slice ad D.length cd, .slice aa A.length ca, .int .i64 fl, .int .i64 nx] 37)).heap.size (w.alloc (.cells #[.slice ad D.length cd, .slice aa A.length ca, .int .i64 fl, .int .i64 nx] 37)) W → ∀ (i : Nat) (p : Mf.P), A[i]? = some p → ∃ b o, aa = some ⟨b, o, none⟩ ∧ Mf.PA W b (o + i * 8) p) := Lib.hid fun W hW i p hp => by
  rcases ha2 with ⟨h0, -⟩ | ⟨b, o, cs, fr, rfl, -, _, h⟩
  ·rw [h0] at hp; cases hp
  ·exact ⟨b, o, rfl, (Mf.Ps.part h hp).kept hW⟩
 obtain ⟨e0, e1, e2, e3⟩ := hE
 clear hd ha hd2 ha2 hb
 generalize Mf.right ⟨D, A, fl, nx⟩ = R at HRL HRN HRD HRA HRF ⊢
 by_cases hl1 : D.length ≤ 1000
 ·by_cases hl2 : A.length ≤ 1000
  ·have i1 : (D.length : Int) ≤ 1000 := by omega
   have i2 : (A.length : Int) ≤ 1000 := by omega
   have j1 : ¬ (1000 : Int) < (D.length : Int) := by omega
   have j2 : ¬ (1000 : Int) < (A.length : Int) := by omega
   have HRF2 := Lib.hid (HRF.out hl1 hl2)
   have CF := Lib.hid (CU.out fl)
   have CN := Lib.hid (CU.out nx)
   clear HRL HRF hl1 hl2
   generalize Mf.nm fl = X1 at CF HRF2 HRN
   generalize Mf.nm nx = X2 at CN HRF2 HRN
   cases X1
   ·have HF := Lib.hid (HRN.out (.inl rfl))
    go_enter Tryd.func40, Tryd.ntmps40
    go_wp2_with fail
    with_reducible refine (CF.out _).mono ?_
    rintro e w4 ⟨rfl, h9⟩
    subst w4
    go_wp2
    go_ret
    exact ⟨by rw [HF.out]; rfl, HB.out⟩
   cases X2
   ·have HF := Lib.hid (HRN.out (.inr rfl))
    go_enter Tryd.func40, Tryd.ntmps40
    go_wp2_with fail
    with_reducible refine (CF.out _).mono ?_
    rintro e w4 ⟨rfl, h9⟩
    subst w4
    go_wp2_with fail
    with_reducible refine (CN.out _).mono ?_
    rintro e w4 ⟨rfl, h9⟩
    subst w4
    go_wp2
    go_ret
    exact ⟨by rw [HF.out]; rfl, HB.out⟩
   clear HRN
   go_enter Tryd.func40, Tryd.ntmps40
   go_wp2_with fail
   with_reducible refine (CF.out _).mono ?_
   rintro e w4 ⟨rfl, h9⟩
   subst w4
   go_wp2_with fail
   with_reducible refine (CN.out _).mono ?_
   rintro e w4 ⟨rfl, h9⟩
   subst w4
   go_wp2_with fail
   generalize hwo : w.alloc _ = w1 at HB HE HD HA e0 e1 e2 e3 ⊢
   clear hwo CF CN
   go_loopw [3] (fun i wr => ∃ k : Nat, k ≤ D.length ∧ i = .int .i64 k ∧ (D.take k).all Mf.nm = true ∧ wr = w1) (fun i _ => D.length - (intOf i).toNat)
   case atStart => exact ⟨0, Nat.zero_le _, rfl, rfl, rfl⟩
   case round =>
    obtain ⟨k, hk, rfl, hall, rfl⟩ := hrel
    have hk0 : (0 : Int) ≤ (k : Int) := by omega
    by_cases hkl : k < D.length
    ·have hx := List.getElem?_eq_getElem hkl
     generalize D[k] = x at hx
     have HX := Lib.hid hx
     have HALL := Lib.hid hall
     rcases HD.out with ⟨h0, -⟩ | ⟨b, o, cs, fr, rfl, -, hbb, hc⟩
     ·rw [h0] at hkl; simp at hkl
     ·have c0 := Mf.Is.num hc hx
      have hki : (k : Int) < (D.length : Int) := by omega
      have cu := CU.out x wr
      clear hbb hc hx hall
      cases hq : Mf.nm x
      ·rw [hq] at cu
       have HF := Lib.hid (HRD.out (Mf.all_not HX.out hq))
       clear hq
       go_wp2_with fail
       with_reducible refine cu.mono ?_
       rintro e w2 ⟨rfl, rfl⟩
       go_wp2
       go_ret
       exact ⟨by rw [HF.out]; rfl, HB.out⟩
      ·rw [hq] at cu
       have HN := Lib.hid (Mf.all_take HX.out HALL.out hq)
       clear hq
       go_wp2_with fail
       with_reducible refine cu.mono ?_
       rintro e w2 ⟨rfl, h9⟩
       subst w2
       go_wp2
       go_roundw
       case rel => exact ⟨k + 1, by omega, by simp, HN.out, trivial⟩
       case measure => simp [intOf]; omega
    ·obtain rfl : k = D.length := by omega
     have HALD : Hid (D.all Mf.nm = true) := Lib.hid (by rwa [List.take_length] at hall)
     have hki : ¬ (D.length : Int) < (D.length : Int) := by omega
     clear hk hall hkl HD HRD hk0
     go_wp2_with fail
     go_loopw [4] (fun i w3 => ∃ k : Nat, k ≤ A.length ∧ i = .int .i64 k ∧ (A.take k).all Mf.part = true ∧ Below wr.heap.size wr w3) (fun i _ => A.length - (intOf i).toNat)
     case atStart => exact ⟨0, Nat.zero_le _, rfl, rfl, Below.refl _ _⟩
     case round =>
      obtain ⟨k, hk, rfl, hall, hg⟩ := hrel
      have hk0 : (0 : Int) ≤ (k : Int) := by omega
      have HG := Lib.hid hg
      have HALL := Lib.hid hall
      obtain ⟨f0, f1, f2, f3⟩ := HE.out.kept hg
      by_cases hkl : k < A.length
      ·have hx := List.getElem?_eq_getElem hkl
       generalize A[k] = p at hx
       have HX := Lib.hid hx
       obtain ⟨b, o, rfl, hp⟩ := HA.out _ hg k p hx
       obtain ⟨p0, p1, p2, p3, p4, p5, p6, p7⟩ := hp
       have hki : (k : Int) < (A.length : Int) := by omega
       have CPP := Lib.hid (CP.out p)
       have HNO := Lib.hid fun hq => HRA.out (Mf.all_not HX.out hq)
       have HNX := Lib.hid fun hq => Mf.all_take HX.out HALL.out hq
       have HBA : Hid (Below w.heap.size w _) := Lib.hid (HB.out.trans (HG.out.mono HB.out.size))
       obtain ⟨id, lv, ⟨an, ai, sa⟩, ⟨bn, bi, sb⟩⟩ := p
       unfold Mf.P.val Mf.cs at CPP
       simp only at CPP p0 p1 p2 p3 p4 p5 p6 p7
       generalize Mf.part ⟨id, lv, ⟨an, ai, sa⟩, ⟨bn, bi, sb⟩⟩ = Q at CPP HNO HNX
       clear hx hall hg HX e0 e1 e2 e3
       cases Q
       ·have HF := Lib.hid (HNO.out rfl)
        go_wp2_with fail
        with_reducible refine (CPP.out _).mono ?_
        rintro e w4 ⟨rfl, g4⟩
        have HB4 := Lib.hid (HBA.out.trans (g4.mono HBA.out.size))
        go_wp2
        go_ret
        exact ⟨by rw [HF.out]; rfl, HB4.out⟩
       ·have HN := Lib.hid (HNX.out rfl)
        go_wp2_with fail
        with_reducible refine (CPP.out _).mono ?_
        rintro e w4 ⟨rfl, g4⟩
        have HG4 := Lib.hid (HG.out.trans (g4.mono HG.out.size))
        clear g4
        go_wp2
        go_roundw
        case rel => exact ⟨k + 1, by omega, by simp, HN.out, HG4.out⟩
        case measure => simp [intOf]; omega
      ·obtain rfl : k = A.length := by omega
       have HALA : Hid (A.all Mf.part = true) := Lib.hid (by rwa [List.take_length] at hall)
       have hki : ¬ (A.length : Int) < (A.length : Int) := by omega
       have HFF := Lib.hid (HRF2.out HALD.out HALA.out)
       have HBA : Hid (Below w.heap.size w _) := Lib.hid (HB.out.trans (HG.out.mono HB.out.size))
       clear e0 e1 e2 e3 hall hg HRA HA HALA HALD HALL HRF2 hkl hk hk0
       go_wp2
       go_ret
       exact ⟨by rw [HFF.out]; rfl, HBA.out⟩
  ·have HF := Lib.hid (HRL.out (.inr hl2))
   have j1 : ¬ (1000 : Int) < (D.length : Int) := by omega
   have j2 : (1000 : Int) < (A.length : Int) := by omega
   go_enter Tryd.func40, Tryd.ntmps40
   go_wp2
   go_ret
   exact ⟨by rw [HF.out]; rfl, HB.out⟩
 ·have HF := Lib.hid (HRL.out (.inl hl1))
  have j1 : (1000 : Int) < (D.length : Int) := by omega
  go_enter Tryd.func40, Tryd.ntmps40
  go_wp2
  go_ret
  exact ⟨by rw [HF.out]; rfl, HB.out⟩
end
section
open Go.RowKit
abbrev Mf.sv (v : Value) (s : Mf.S) : Value := .agg #[v, .int .i64 s.floor, .int .i64 s.next]
structure Mf.SA (w : World) (b : Nat) (v : Value) (f n : Int) : Prop where
 c0 : w.cell? ⟨b, 0, none⟩ = some v
 c1 : w.cell? ⟨b, 1, none⟩ = some (.int .i64 f)
 c2 : w.cell? ⟨b, 2, none⟩ = some (.int .i64 n)
theorem Mf.SA.lt {w : World} {b : Nat} {v : Value} {f n : Int} (h : Mf.SA w b v f n) : b < w.heap.size := World.block_lt_of_cell? w _ h.c0
theorem Mf.SA.kept {w w' : World} {b : Nat} {v : Value} {f n : Int} (h : Mf.SA w b v f n) (g : Below w.heap.size w w') : Mf.SA w' b v f n :=
 ⟨(g.cell (p := ⟨b, 0, none⟩) h.lt).trans h.c0, (g.cell (p := ⟨b, 1, none⟩) h.lt).trans h.c1, (g.cell (p := ⟨b, 2, none⟩) h.lt).trans h.c2⟩
theorem Mf.SA.new (w : World) (v : Value) (f n : Int) (t : TypeId) : Mf.SA (w.alloc (.cells #[v, .int .i64 f, .int .i64 n] t)) w.heap.size v f n :=
 ⟨Kn.cell_new w _ t 0 _ rfl, Kn.cell_new w _ t 1 _ rfl, Kn.cell_new w _ t 2 _ rfl⟩
theorem Mf.Ps.at_ {w : World} {a : Option Addr} {L : List Mf.P} {c : Nat} (h : Mf.Ps w (.slice a L.length c) L) {i : Nat} {p : Mf.P} (hp : L[i]? = some p) : ∃ b o, a = some ⟨b, o, none⟩ ∧ Mf.PA w b (o + i * 8) p := by
 obtain ⟨a', c', e, -, h⟩ := h
 simp only [Value.slice.injEq, true_and] at e
 obtain ⟨rfl, rfl⟩ := e
 rcases h with ⟨h0, -⟩ | ⟨b, o, cs, fr, rfl, -, _, h⟩
 ·rw [h0] at hp; cases hp
 ·exact ⟨b, o, rfl, Mf.Ps.part h hp⟩
theorem Mf.Ps.form {w : World} {v : Value} {L : List Mf.P} (h : Mf.Ps w v L) : ∃ a c, v = .slice a L.length c ∧ L.length ≤ c := by
 obtain ⟨a, c, rfl, hc, -⟩ := h
 exact ⟨a, c, rfl, hc⟩
set_option maxHeartbeats 2000000 in
set_option maxRecDepth 100000 in
theorem Mf.equal_c (v u : Value) (L : List Mf.P) (w : World) (hv : Mf.Ps w v L) (hu : Mf.Ps w u L) (hl : L.length ≤ 9223372036854775000) :
 Calls Tryd.prog 23 #[v, u] w fun e w' => e = .returned (.bool true) ∧ Below w.heap.size w w' := by
 have HV := Lib.hid hv
 have HU := Lib.hid hu
 obtain ⟨a, c, rfl, -⟩ := hv.form
 obtain ⟨a2, c2, rfl, -⟩ := hu.form
 have hz : ((L.length : Int) != (L.length : Int)) = false := by simp
 clear hv hu
 go_enter Tryd.func23, Tryd.ntmps23
 go_wp2
 go_loopw [13] (fun i wr => ∃ k : Nat, k ≤ L.length ∧ i = .int .i64 k ∧ ∃ n, wr = w.drewN n) (fun i _ => L.length - (intOf i).toNat)
 case atStart => exact ⟨0, Nat.zero_le _, rfl, 0, rfl⟩
 case round =>
  obtain ⟨k, hk, rfl, n, rfl⟩ := hrel
  have hk0 : (0 : Int) ≤ (k : Int) := by omega
  by_cases hkl : k < L.length
  ·have hx := List.getElem?_eq_getElem hkl
   generalize L[k] = p at hx
   obtain ⟨b, o, rfl, ⟨p0, p1, p2, p3, p4, p5, p6, p7⟩⟩ := HV.out.at_ hx
   obtain ⟨b2, o2, rfl, ⟨q0, q1, q2, q3, q4, q5, q6, q7⟩⟩ := HU.out.at_ hx
   have hki : (k : Int) < (L.length : Int) := by omega
   clear hx
   go_wp2_with fail
   go_quiet (fail)
   go_wp2
   go_roundw
   case rel => exact ⟨k + 1, by omega, by simp, by first | exact ⟨_, rfl⟩ | exact ⟨_, World.drewN_drewN _ _ _⟩⟩
   case measure => simp [intOf]; omega
  ·obtain rfl : k = L.length := by omega
   have hki : ¬ (L.length : Int) < (L.length : Int) := by omega
   go_wp2
   go_ret
   exact ⟨rfl, Kn.below_drewN (Below.refl _ _) _⟩
set_option maxHeartbeats 2000000 in
set_option maxRecDepth 100000 in
theorem Mf.same_c (v u : Value) (s : Mf.S) (w : World) (hv : Mf.Ps w v s.parts) (hu : Mf.Ps w u s.parts) (hl : s.parts.length ≤ 9223372036854775000) :
 Calls Tryd.prog 11 #[Mf.sv v s, Mf.sv u s] w fun e w' => e = .returned (.bool true) ∧ Below w.heap.size w w' := by
 obtain ⟨L, f, n⟩ := s
 unfold Mf.sv
 simp only at hv hu hl ⊢
 have hA : Below w.heap.size w (w.alloc (.cells #[v, .int .i64 f, .int .i64 n] 25)) := (Below.refl _ _).alloc (Nat.le_refl _) _
 have hA2 := (Below.refl (w.alloc (.cells #[v, .int .i64 f, .int .i64 n] 25)).heap.size (w.alloc (.cells #[v, .int .i64 f, .int .i64 n] 25))).alloc (Nat.le_refl _) (.cells #[u, .int .i64 f, .int .i64 n] 25)
 have hsz : (w.alloc (.cells #[v, .int .i64 f, .int .i64 n] 25)).heap.size = w.heap.size + 1 := World.size_alloc ..
 have a1 := (Mf.SA.new w v f n 25).kept hA2
 have a2 := Mf.SA.new (w.alloc (.cells #[v, .int .i64 f, .int .i64 n] 25)) u f n 25
 rw [hsz] at a2
 have HB := Lib.hid (hA.trans (hA2.mono hA.size))
 have ce := Mf.equal_c v u L _ (hv.kept HB.out) (hu.kept HB.out) hl
 obtain ⟨x0, x1, x2⟩ := a1
 obtain ⟨y0, y1, y2⟩ := a2
 obtain ⟨a, c, rfl, -⟩ := hv.form
 obtain ⟨a9, c9, rfl, -⟩ := hu.form
 clear hv hu hA hA2
 go_enter Tryd.func11, Tryd.ntmps11
 go_wp2_with fail
 with_reducible refine ce.mono ?_
 rintro e w1 ⟨rfl, g1⟩
 have HB1 := Lib.hid (HB.out.trans (g1.mono HB.out.size))
 go_wp2
 go_ret
 exact ⟨rfl, HB1.out⟩
set_option maxHeartbeats 2000000 in
set_option maxRecDepth 100000 in
theorem Mf.same_no (v u : Value) (f n m : Int) (hn : n ≠ m) (hv : ∃ a l c, v = .slice a l c) (hu : ∃ a l c, u = .slice a l c) (w : World) :
 Calls Tryd.prog 11 #[.agg #[v, .int .i64 f, .int .i64 n], .agg #[u, .int .i64 f, .int .i64 m]] w fun e w' => e = .returned (.bool false) ∧ Below w.heap.size w w' := by
 obtain ⟨a, l, c, rfl⟩ := hv
 obtain ⟨a9, l9, c9, rfl⟩ := hu
 have hA : Below w.heap.size w (w.alloc (.cells #[.slice a l c, .int .i64 f, .int .i64 n] 25)) := (Below.refl _ _).alloc (Nat.le_refl _) _
 have hA2 := (Below.refl (w.alloc (.cells #[.slice a l c, .int .i64 f, .int .i64 n] 25)).heap.size (w.alloc (.cells #[.slice a l c, .int .i64 f, .int .i64 n] 25))).alloc (Nat.le_refl _) (.cells #[.slice a9 l9 c9, .int .i64 f, .int .i64 m] 25)
 have hsz : (w.alloc (.cells #[.slice a l c, .int .i64 f, .int .i64 n] 25)).heap.size = w.heap.size + 1 := World.size_alloc ..
 have a1 := (Mf.SA.new w (.slice a l c) f n 25).kept hA2
 have a2 := Mf.SA.new (w.alloc (.cells #[.slice a l c, .int .i64 f, .int .i64 n] 25)) (.slice a9 l9 c9) f m 25
 rw [hsz] at a2
 have HB := Lib.hid (hA.trans (hA2.mono hA.size))
 obtain ⟨x0, x1, x2⟩ := a1
 obtain ⟨y0, y1, y2⟩ := a2
 have hne : (n == m) = false := beq_eq_false_iff_ne.2 hn
 clear hA hA2
 go_enter Tryd.func11, Tryd.ntmps11
 go_wp2
 go_ret
 exact ⟨rfl, HB.out⟩
set_option maxHeartbeats 2000000 in
set_option maxRecDepth 100000 in
theorem Mf.rsame_c (v u : Value) (s : Mf.S) (w : World) (hv : Mf.Ps w v s.parts) (hu : Mf.Ps w u s.parts) (hl : s.parts.length ≤ 9223372036854775000) :
 Calls Tryd.prog 8 #[Mf.sv v s, Mf.sv u s] w fun e w' => e = .returned (.bool true) ∧ Below w.heap.size w w' := by
 obtain ⟨L, f, n⟩ := s
 unfold Mf.sv
 simp only at hv hu hl ⊢
 have hA : Below w.heap.size w (w.alloc (.cells #[v, .int .i64 f, .int .i64 n] 25)) := (Below.refl _ _).alloc (Nat.le_refl _) _
 have hA2 := (Below.refl (w.alloc (.cells #[v, .int .i64 f, .int .i64 n] 25)).heap.size (w.alloc (.cells #[v, .int .i64 f, .int .i64 n] 25))).alloc (Nat.le_refl _) (.cells #[u, .int .i64 f, .int .i64 n] 25)
 have hsz : (w.alloc (.cells #[v, .int .i64 f, .int .i64 n] 25)).heap.size = w.heap.size + 1 := World.size_alloc ..
 have a1 := (Mf.SA.new w v f n 25).kept hA2
 have a2 := Mf.SA.new (w.alloc (.cells #[v, .int .i64 f, .int .i64 n] 25)) u f n 25
 rw [hsz] at a2
 have HB := Lib.hid (hA.trans (hA2.mono hA.size))
 have HV := Lib.hid (hv.kept HB.out)
 have HU := Lib.hid (hu.kept HB.out)
 obtain ⟨x0, x1, x2⟩ := a1
 obtain ⟨y0, y1, y2⟩ := a2
 obtain ⟨a, c, rfl, -⟩ := hv.form
 obtain ⟨a9, c9, rfl, -⟩ := hu.form
 have hz : ((L.length : Int) != (L.length : Int)) = false := by simp
 clear hv hu hA hA2
 go_enter Tryd.func8, Tryd.ntmps8
 go_wp2_with fail
 generalize hwo : (w.alloc _).alloc _ = w2 at x0 x1 x2 y0 y1 y2 HB HV HU ⊢
 clear hwo
 go_loopw [5] (fun i wr => ∃ k : Nat, k ≤ L.length ∧ i = .int .i64 k ∧ ∃ n, wr = w2.drewN n) (fun i _ => L.length - (intOf i).toNat)
 case atStart => exact ⟨0, Nat.zero_le _, rfl, 0, rfl⟩
 case round =>
  obtain ⟨k, hk, rfl, m, rfl⟩ := hrel
  have hk0 : (0 : Int) ≤ (k : Int) := by omega
  by_cases hkl : k < L.length
  ·have hx := List.getElem?_eq_getElem hkl
   generalize L[k] = p at hx
   obtain ⟨b, o, rfl, ⟨p0, p1, p2, p3, p4, p5, p6, p7⟩⟩ := HV.out.at_ hx
   obtain ⟨b2, o2, rfl, ⟨q0, q1, q2, q3, q4, q5, q6, q7⟩⟩ := HU.out.at_ hx
   have hki : (k : Int) < (L.length : Int) := by omega
   clear hx
   go_wp2_with fail
   go_quiet (fail)
   go_wp2
   go_roundw
   case rel => exact ⟨k + 1, by omega, by simp, by first | exact ⟨_, rfl⟩ | exact ⟨_, World.drewN_drewN _ _ _⟩⟩
   case measure => simp [intOf]; omega
  ·obtain rfl : k = L.length := by omega
   have hki : ¬ (L.length : Int) < (L.length : Int) := by omega
   go_wp2
   go_ret
   exact ⟨rfl, Kn.below_drewN HB.out _⟩
def Mf.atV (L : List Mf.P) (d : Int) : Int := match Mf.at_ L d with | none => -1 | some k => (k : Int)
theorem Mf.atV_none {L : List Mf.P} {d : Int} (h : ∀ (i : Nat) (p : Mf.P), L[i]? = some p → p.id ≠ d) : Mf.atV L d = -1 := by
 unfold Mf.atV
 rw [(Mf.at_none L d).2 (Mf.has_not.2 fun p hp => by
  obtain ⟨i, hi, rfl⟩ := List.getElem_of_mem hp
  exact h i _ (List.getElem?_eq_getElem hi))]
theorem Mf.at_first : ∀ {L : List Mf.P} {d : Int} {k : Nat} {p : Mf.P}, L[k]? = some p → p.id = d → (∀ (i : Nat) (q : Mf.P), i < k → L[i]? = some q → q.id ≠ d) → Mf.at_ L d = some k
 | [], _, _, _, h, _, _ => by cases h
 | q :: L, d, 0, p, h, e, _ => by
   obtain rfl : q = p := by simpa using h
   unfold Mf.at_
   rw [if_pos (by rw [e]; exact beq_self_eq_true d)]
 | q :: L, d, k + 1, p, h, e, hb => by
   unfold Mf.at_
   have h0 : q.id ≠ d := hb 0 q (by omega) rfl
   rw [if_neg (by simpa using h0), Mf.at_first (k := k) (by simpa using h) e fun i r hi hr => hb (i + 1) r (by omega) (by simpa using hr)]
   rfl
set_option maxHeartbeats 2000000 in
set_option maxRecDepth 100000 in
theorem Mf.rat_c (v : Value) (L : List Mf.P) (d : Int) (w : World) (hv : Mf.Ps w v L) (hl : L.length ≤ 9223372036854775000) :
 Calls Tryd.prog 41 #[v, .int .i64 d] w fun e w' => e = .returned (.int .i64 (Mf.atV L d)) ∧ w' = w := by
 have HV := Lib.hid hv
 obtain ⟨a, c, rfl, -⟩ := hv.form
 have HN := Lib.hid (Mf.atV_none (L := L) (d := d))
 have HY : Hid (∀ (k : Nat) (p : Mf.P), L[k]? = some p → p.id = d → (∀ (i : Nat) (q : Mf.P), i < k → L[i]? = some q → q.id ≠ d) → Mf.atV L d = (k : Int)) := Lib.hid fun k p h1 h2 h3 => by unfold Mf.atV; rw [Mf.at_first h1 h2 h3]
 generalize Mf.atV L d = R at HN HY ⊢
 clear hv
 go_enter Tryd.func41, Tryd.ntmps41
 go_wp2
 go_loopw [5] (fun i wr => ∃ k : Nat, k ≤ L.length ∧ i = .int .i64 k ∧ (∀ (j : Nat) (q : Mf.P), j < k → L[j]? = some q → q.id ≠ d) ∧ wr = w) (fun i _ => L.length - (intOf i).toNat)
 case atStart => exact ⟨0, Nat.zero_le _, rfl, fun j q hj => by omega, rfl⟩
 case round =>
  obtain ⟨k, hk, rfl, hall, rfl⟩ := hrel
  have hk0 : (0 : Int) ≤ (k : Int) := by omega
  have HALL := Lib.hid hall
  by_cases hkl : k < L.length
  ·have hx := List.getElem?_eq_getElem hkl
   generalize L[k] = p at hx
   have HX := Lib.hid hx
   obtain ⟨b, o, rfl, ⟨p0, p1, p2, p3, p4, p5, p6, p7⟩⟩ := HV.out.at_ hx
   have hki : (k : Int) < (L.length : Int) := by omega
   clear hx hall
   by_cases hd : p.id = d
   ·have HR := Lib.hid (HY.out k p HX.out hd HALL.out)
    have hb : (p.id == d) = true := by rw [hd]; exact beq_self_eq_true d
    clear hd
    go_wp2
    go_ret
    exact ⟨by rw [HR.out]; rfl, rfl⟩
   ·have HND := Lib.hid hd
    have hb : (p.id == d) = false := beq_eq_false_iff_ne.2 hd
    clear hd
    go_wp2
    go_roundw
    case rel => exact ⟨k + 1, by omega, by simp, fun j q hj hq => by
     by_cases e : j = k
     ·subst e
      rw [HX.out] at hq
      obtain rfl := Option.some.inj hq
      exact HND.out
     ·exact HALL.out j q (by omega) hq, trivial⟩
    case measure => simp [intOf]; omega
  ·obtain rfl : k = L.length := by omega
   have hki : ¬ (L.length : Int) < (L.length : Int) := by omega
   have HR := Lib.hid (HN.out fun i p hp => hall i p (by
    rcases Nat.lt_or_ge i L.length with h | h
    ·exact h
    ·rw [List.getElem?_eq_none h] at hp; cases hp) hp)
   clear hall
   go_wp2
   go_ret
   exact ⟨by rw [HR.out]; rfl, rfl⟩
end
section
open Go.RowKit
def Mf.Ow (base : Nat) (w : World) (v : Value) (L : List Mf.P) : Prop := Dk.Own 44 8 Mf.pc base w v L
theorem Mf.infoP : (Tryd.prog.info? 44).map (fun i => (i.zero, i.size, i.bytes)) = some (some (.agg #[.int .i64 0, .int .i64 0, .bool false, .int .i64 0, .string ⟨#[]⟩, .bool false, .int .i64 0, .string ⟨#[]⟩]), 8, 80) := by kernel_rfl
theorem Mf.infoI : (Tryd.prog.info? 3).map (fun i => (i.zero, i.size, i.bytes)) = some (some (.int .i64 0), 1, 8) := by kernel_rfl
theorem Mf.Ow.nil (base : Nat) (w : World) : Mf.Ow base w (.slice none 0 0) [] := Dk.Own.nil base w
theorem Mf.Ow.ps {base : Nat} {w : World} {v : Value} {L : List Mf.P} (h : Mf.Ow base w v L) : Mf.Ps w v L := Mf.At.of (Dk.Own.at Mf.pc_len h)
theorem Mf.Ow.kept {base : Nat} {w w' : World} {v : Value} {L : List Mf.P} (h : Mf.Ow base w v L) (g : Below w.heap.size w w') : Mf.Ow base w' v L := Dk.Own.kept h g
theorem Mf.Ps.src {w : World} {v : Value} {L : List Mf.P} (h : Mf.Ps w v L) : Dk.Src Mf.pc w v L := by
 obtain ⟨a, c, rfl, -, h⟩ := h
 rcases h with ⟨rfl, h0⟩ | ⟨b, o, cs, fr, rfl, -, _, h⟩
 ·cases a with
  | none => rw [h0 rfl]; exact .inl ⟨rfl, rfl⟩
  | some ad => exact .inr ⟨ad, c, rfl, fun j y hy => by simp at hy⟩
 ·exact .inr ⟨_, c, rfl, Dk.src_cells Mf.pc_len (by decide) h⟩
theorem Mf.at_off {base : Nat} {t : TypeId} {q : Nat} {w w' : World} {v : Value} {L : List Mf.P} {cs : Array Value} {f : Nat × Nat} (h : Mf.Ow base w v L) (hq : w.heap[q]? = some (.cells cs t f)) (ht : t ≠ 44) (g : ∀ b, b ≠ q → w'.heap[b]? = w.heap[b]?) : Mf.Ow base w' v L :=
 Dk.Own.same h fun b hb => g b fun e2 => by
  obtain ⟨cs9, hcs⟩ := Dk.Own.typed h b hb
  subst e2
  rw [hcs] at hq
  simp only [Option.some.injEq, Obj.cells.injEq] at hq
  exact ht hq.2.1.symm
theorem Mf.heap3 (w : World) (q : Nat) (x y z : Value) : ∀ b, b ≠ q → (((w.setCell ⟨q, 0, none⟩ x).setCell ⟨q, 1, none⟩ y).setCell ⟨q, 2, none⟩ z).heap[b]? = w.heap[b]? := fun b h =>
 (Below.heap_setCell _ _ _ _ (by show b ≠ q; exact h)).trans ((Below.heap_setCell _ _ _ _ (by show b ≠ q; exact h)).trans (Below.heap_setCell _ _ _ _ (by show b ≠ q; exact h)))
theorem Mf.below1 {B : Nat} {w w' : World} {q : Nat} (g : Below B w w') (h : B ≤ q) (i : Nat) (x : Value) : Below B w (w'.setCell ⟨q, i, none⟩ x) :=
 ⟨g.os, g.tape, g.output, by have := g.size; simpa [World.setCell] using this, fun b hb => (Below.heap_setCell _ _ _ _ (by show b ≠ q; omega)).trans (g.block b hb)⟩
theorem Mf.below3 {B : Nat} {w w' : World} {q : Nat} (g : Below B w w') (h : B ≤ q) (x y z : Value) : Below B w (((w'.setCell ⟨q, 0, none⟩ x).setCell ⟨q, 1, none⟩ y).setCell ⟨q, 2, none⟩ z) :=
 Mf.below1 (Mf.below1 (Mf.below1 g h _ _) h _ _) h _ _
theorem Mf.three {w : World} {q : Nat} {x y z : Value} {t : TypeId} (h : w.heap[q]? = some (.cells #[x, y, z] t (0, 0))) :
 (w.cell? ⟨q, 0, none⟩ = some x ∧ w.cell? ⟨q, 1, none⟩ = some y ∧ w.cell? ⟨q, 2, none⟩ = some z) ∧ w.frozen? ⟨q, 0, none⟩ = false ∧ w.frozen? ⟨q, 1, none⟩ = false ∧ w.frozen? ⟨q, 2, none⟩ = false := by
 refine ⟨⟨?_, ?_, ?_⟩, ?_, ?_, ?_⟩ <;> simp [World.cell?, World.frozen?, h]
def Mf.st (r : Option Mf.S) : Mf.S := match r with | none => ⟨[], 0, 0⟩ | some t => t
def Mf.er (r : Option Mf.S) : Int := match r with | none => 8 | some _ => 0
def Mf.GotS (w : World) (r : Option Mf.S) (e : Ending) (w' : World) : Prop := ∃ u, e = .returned (.tuple #[Mf.sv u (Mf.st r), .int .i64 (Mf.er r)]) ∧ Mf.Ow w.heap.size w' u (Mf.st r).parts ∧ Below w.heap.size w w'
theorem Mf.GotS.bad {w w' : World} {r : Option Mf.S} (h : r = none) (g : Below w.heap.size w w') : Mf.GotS w r (.returned (.tuple #[.agg #[.slice none 0 0, .int .i64 0, .int .i64 0], .int .i64 8])) w' := by
 subst h
 exact ⟨_, rfl, Mf.Ow.nil _ _, g⟩
theorem Mf.GotS.good {w w' : World} {r : Option Mf.S} {u : Value} {L : List Mf.P} {f n : Int} (h : r = some ⟨L, f, n⟩) (hu : Mf.Ow w.heap.size w' u L) (g : Below w.heap.size w w') : Mf.GotS w r (.returned (.tuple #[.agg #[u, .int .i64 f, .int .i64 n], .int .i64 0])) w' := by
 subst h
 exact ⟨u, rfl, hu, g⟩
theorem Mf.step_part {base : Nat} {w0 : World} {v : Value} {M : List Mf.P} (K : List Mf.P) (hb : base ≤ w0.heap.size) (hown : Mf.Ow base w0 v M) (hl : M.length + K.length ≤ 1500000000000)
 {ops : Array Oper} {o : Oper} {a : Act} {Kx : Act → World → Prop} {Q : Exit → Act → World → Prop} {E : Prop} (s x : Operand) (u : Value) (hgd : o.guard = none)
 (ho : o.op = .call { callee := .builtin .append, args := #[s, x], argTypes := #[23, 23] })
 (hs : a.eval s = v) (hx : a.eval x = u) (hu : Dk.Src Mf.pc w0 u K)
 (h : ∀ v' w', Mf.Ow base w' v' (M ++ K) → Ty.Grew w0 w' v v' → Kx (a.put o.dst v') w') :
 if Region.wanted o (yielded ops a.tmps) = true then Oper.wp Tryd.prog o a w0 Kx Q else E :=
 Dk.step_appendB 23 _ 80 Tryd.underlying23 Mf.infoP rfl (by decide) Mf.pc_len Mf.pc_one K hb hown (by omega) (by omega) s x u hgd ho hs hx hu h
theorem Mf.wpList_part {base : Nat} {w0 : World} {v : Value} {M : List Mf.P} (K : List Mf.P) (hown : Mf.Ow base w0 v M) (hb : base ≤ w0.heap.size) (hl : M.length + K.length ≤ 1500000000000) {u : Value} (hu : Dk.Src Mf.pc w0 u K)
 {ops : Array Oper} {rest : List Oper} {o : Oper} {a : Act} {Q : Exit → Act → World → Prop} (s x : Operand) (hgd : Region.wanted o (yielded ops a.tmps) = true)
 (ho : o.op = .call { callee := .builtin .append, args := #[s, x], argTypes := #[23, 23] })
 (hs : a.eval s = v) (hx : a.eval x = u)
 (h : ∀ v' w', Mf.Ow base w' v' (M ++ K) → Ty.Grew w0 w' v v' → wpList Tryd.prog ops Q rest (a.put o.dst v') w') :
 wpList Tryd.prog ops Q (o :: rest) a w0 :=
 Dk.wpList_append 23 _ 80 Tryd.underlying23 Mf.infoP rfl (by decide) Mf.pc_len Mf.pc_one K hown hb (by omega) (by omega) hu s x hgd ho hs hx h
theorem Mf.ow_below {base : Nat} {w1 w w' : World} {v v' : Value} {L : List Mf.P} (hb : Below base w1 w) (hs : base ≤ w.heap.size) (ho : Mf.Ow base w v L) (g : Ty.Grew w w' v v') : Below base w1 w' :=
 hb.trans (g.below hs fun k hk => Dk.Own.base_le ho k hk)
theorem Mf.src_cs {w : World} {q : Nat} {p : Mf.P} (h : Mf.PA w q 0 p) : Dk.Src Mf.pc w (.slice (some ⟨q, 0, none⟩) 1 1) [p] := by
 refine Dk.src_cell fun j y hy => ?_
 obtain ⟨h0, h1, h2, h3, h4, h5, h6, h7⟩ := h
 match j, hy with
 | 0, hy => (obtain rfl := Option.some.inj hy; exact h0)
 | 1, hy => (obtain rfl := Option.some.inj hy; exact h1)
 | 2, hy => (obtain rfl := Option.some.inj hy; exact h2)
 | 3, hy => (obtain rfl := Option.some.inj hy; exact h3)
 | 4, hy => (obtain rfl := Option.some.inj hy; exact h4)
 | 5, hy => (obtain rfl := Option.some.inj hy; exact h5)
 | 6, hy => (obtain rfl := Option.some.inj hy; exact h6)
 | 7, hy => (obtain rfl := Option.some.inj hy; exact h7)
 | _ + 8, hy => cases hy
end
end Go.Proofs.YteaglaijkafphaaDoor
