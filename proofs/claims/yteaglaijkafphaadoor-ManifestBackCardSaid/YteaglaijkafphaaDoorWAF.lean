import Derived.Test.YteaglaijkafphaaDoorWAE
import Derived.Deep.RegionHeld3
import Derived.Deep.OwnRows
import Derived.Test.YteaglaijkafphaaDoorWAD
import Derived.Test.YteaglaijkafphaaDoorWAA
import GoSem.Op.String
import Derived.Test.YteaglaijkafphaaDoorWAB
import Derived.Laws.MathBits
import Derived.Laws.BitsLemmas
namespace Go.Proofs.YteaglaijkafphaaDoor
open Go Go.RowKit
def Mf.v0 : Kn.V := ⟨false, 0, ⟨#[]⟩⟩
def Mf.p1 : Mf.P := ⟨1, 0, Mf.v0, Mf.v0⟩
def Mf.p2 : Mf.P := ⟨2, 0, Mf.v0, Mf.v0⟩
theorem Mf.cmp0 : Kn.cmp Mf.v0 Mf.v0 = 0 := by
 have := Kn.cmp_zero Mf.v0 Mf.v0
 rw [show Kn.same Mf.v0 Mf.v0 = true from by simp [Kn.same]] at this
 simpa using this
theorem Mf.part1 : Mf.part Mf.p1 = true := by
 have h : decide (Kn.cmp Mf.p1.lo Mf.p1.hi ≤ 0) = true := by rw [show Kn.cmp Mf.p1.lo Mf.p1.hi = 0 from Mf.cmp0]; decide
 unfold Mf.part
 rw [h]
 decide
theorem Mf.part2 : Mf.part Mf.p2 = true := by
 have h : decide (Kn.cmp Mf.p2.lo Mf.p2.hi ≤ 0) = true := by rw [show Kn.cmp Mf.p2.lo Mf.p2.hi = 0 from Mf.cmp0]; decide
 unfold Mf.part
 rw [h]
 decide
theorem Mf.ap1 : Mf.ap ⟨[], 0, 0⟩ ⟨[], [Mf.p1], 0, 2⟩ = some ⟨[Mf.p1], 0, 2⟩ := by
 unfold Mf.ap
 rw [if_pos ⟨by simp [Mf.right, Mf.part1, Mf.nm], by decide, by decide⟩]
 simp [Mf.dr, Mf.ad, Mf.has, Mf.p1]
theorem Mf.ap2 : Mf.ap ⟨[Mf.p1], 0, 2⟩ ⟨[1], [Mf.p2], 0, 3⟩ = some ⟨[Mf.p2], 0, 3⟩ := by
 unfold Mf.ap
 rw [if_pos ⟨by simp [Mf.right, Mf.part2, Mf.nm], by decide, by decide⟩]
 simp [Mf.dr, Mf.ad, Mf.has, Mf.wo, Mf.p1, Mf.p2]
theorem Mf.i64p1 : ∀ p ∈ [Mf.p1], Ty.I64 p.id := fun p hp => by
 obtain rfl : p = Mf.p1 := by simpa using hp
 exact ⟨by decide, by decide⟩
theorem Mf.Ps.one (w : World) (p : Mf.P) : Mf.Ps (w.alloc (.cells (Mf.cs p) 44)) (.slice (some ⟨w.heap.size, 0, none⟩) 1 1) [p] := by
 refine ⟨_, 1, rfl, Nat.le_refl _, .inr ⟨w.heap.size, 0, _, (44, (0, 0)), rfl, trivial, heap_alloc_new w _, fun i j x hi hj => ?_⟩⟩
 have h0 : i = 0 := by
  have := (List.getElem?_eq_some_iff.1 hi).1
  simp at this
  omega
 subst h0
 obtain rfl : p = x := by simpa using hi
 match j, hj with
 | 0, _ => exact Kn.cell_new w _ _ 0 _ rfl
 | 1, _ => exact Kn.cell_new w _ _ 1 _ rfl
 | 2, _ => exact Kn.cell_new w _ _ 2 _ rfl
 | 3, _ => exact Kn.cell_new w _ _ 3 _ rfl
 | 4, _ => exact Kn.cell_new w _ _ 4 _ rfl
 | 5, _ => exact Kn.cell_new w _ _ 5 _ rfl
 | 6, _ => exact Kn.cell_new w _ _ 6 _ rfl
 | 7, _ => exact Kn.cell_new w _ _ 7 _ rfl
theorem Mf.Is.one (w : World) (d : Int) : Mf.Is (w.alloc (.cells #[.int .i64 d] 3)) (.slice (some ⟨w.heap.size, 0, none⟩) 1 1) [d] := by
 refine ⟨_, 1, rfl, Nat.le_refl _, .inr ⟨w.heap.size, 0, _, (3, (0, 0)), rfl, trivial, heap_alloc_new w _, fun i j x hi hj => ?_⟩⟩
 have h0 : i = 0 := by
  have := (List.getElem?_eq_some_iff.1 hi).1
  simp at this
  omega
 subst h0
 obtain rfl : d = x := by simpa using hi
 have h1 : j = 0 := by omega
 subst h1
 exact Kn.cell_new w _ _ 0 _ rfl
set_option maxHeartbeats 4000000 in
set_option maxRecDepth 100000 in
theorem Mf.lives_c (w : World) : Calls Tryd.prog 5 #[] w fun e w' => e = .returned (.bool true) ∧ Below w.heap.size w w' := by
 have hA : Below w.heap.size w (w.alloc (.cells (Mf.cs Mf.p1) 44)) := (Below.refl _ _).alloc (Nat.le_refl _) _
 have C1 := Mf.apply_c (.slice none 0 0) (.slice none 0 0) (.slice (some ⟨w.heap.size, 0, none⟩) 1 1) ⟨[], 0, 0⟩ ⟨[], [Mf.p1], 0, 2⟩ _ (Mf.At.nil _) (Mf.At.nil _) (Mf.Ps.one w Mf.p1) (fun _ h => nomatch h) (Nat.zero_le _)
 rw [Mf.ap1] at C1
 unfold Mf.GotS Mf.sv Mf.st Mf.er at C1
 simp only [Mf.cs, Mf.p1, Mf.v0] at C1 hA
 have HA := Lib.hid hA
 clear hA
 go_enter Tryd.func5, Tryd.ntmps5
 go_wp2_with fail
 with_reducible refine C1.mono ?_
 rintro e w1 ⟨u, rfl, hu, hB⟩
 have HB1 := Lib.hid (HA.out.trans (hB.mono HA.out.size))
 obtain ⟨ua, uc, rfl⟩ := hu.ps.len_le
 have HU := Lib.hid hu.ps
 simp only [List.length_cons, List.length_nil, Nat.reduceAdd] at HU ⊢
 clear C1 hu hB HA
 obtain ⟨w2, hw2⟩ : ∃ w2, w2 = w1.alloc (.cells #[.slice ua 1 uc, .int .i64 0, .int .i64 2] 25) := ⟨_, rfl⟩
 obtain ⟨w3, hw3⟩ : ∃ w3, w3 = w2.alloc (.cells #[.int .i64 1] 3) := ⟨_, rfl⟩
 obtain ⟨w4, hw4⟩ : ∃ w4, w4 = w3.alloc (.cells (Mf.cs Mf.p2) 44) := ⟨_, rfl⟩
 have g2 : Below w1.heap.size w1 w2 := by rw [hw2]; exact (Below.refl _ _).alloc (Nat.le_refl _) _
 have g3 : Below w1.heap.size w1 w3 := by rw [hw3]; exact g2.alloc g2.size _
 have g4 : Below w1.heap.size w1 w4 := by rw [hw4]; exact g3.alloc g3.size _
 have g34 : Below w3.heap.size w3 w4 := by rw [hw4]; exact (Below.refl _ _).alloc (Nat.le_refl _) _
 have g23 : Below w2.heap.size w2 w3 := by rw [hw3]; exact (Below.refl _ _).alloc (Nat.le_refl _) _
 have s2 : w2.heap.size = w1.heap.size + 1 := by rw [hw2]; exact World.size_alloc ..
 have s3 : w3.heap.size = w1.heap.size + 2 := by rw [hw3, World.size_alloc, s2]
 have hI : Mf.Is w4 (.slice (some ⟨w1.heap.size + 1, 0, none⟩) 1 1) [1] := by
  have := Mf.Is.one w2 1
  rw [← hw3, s2] at this
  exact this.kept g34
 have hP2 : Mf.Ps w4 (.slice (some ⟨w1.heap.size + 2, 0, none⟩) 1 1) [Mf.p2] := by
  have := Mf.Ps.one w3 Mf.p2
  rwa [← hw4, s3] at this
 have hS2 : Mf.SA w4 w1.heap.size (.slice ua 1 uc) 0 2 := by
  have := Mf.SA.new w1 (.slice ua 1 uc) 0 2 25
  rw [← hw2] at this
  exact this.kept (g23.trans (g34.mono g23.size))
 have hS : Mf.SA w2 w1.heap.size (.slice ua 1 uc) 0 2 := by
  have := Mf.SA.new w1 (.slice ua 1 uc) 0 2 25
  rwa [← hw2] at this
 have C2 := Mf.apply_c (.slice ua 1 uc) (.slice (some ⟨w1.heap.size + 1, 0, none⟩) 1 1) (.slice (some ⟨w1.heap.size + 2, 0, none⟩) 1 1) ⟨[Mf.p1], 0, 2⟩ ⟨[1], [Mf.p2], 0, 3⟩ w4 (HU.out.kept g4) hI hP2 Mf.i64p1 (by show 1 ≤ _; decide)
 rw [Mf.ap2] at C2
 unfold Mf.GotS Mf.sv Mf.st Mf.er at C2
 simp only [Mf.cs, Mf.p2, Mf.v0] at C2 hw4
 obtain ⟨c0, c1, c2⟩ := hS
 have HS2 := Lib.hid hS2
 have HB4 := Lib.hid (HB1.out.trans (g4.mono HB1.out.size))
 have HU4 := Lib.hid (HU.out.kept g4)
 clear g2 g3 g4 g34 g23 s3 hI hP2 hS2 HB1 HU
 go_wp2_with fail
 rw [← hw2]
 clear hw2
 go_wp2_with fail
 rw [← hw3]
 rw [← hw4]
 clear hw3 hw4
 go_wp2_with fail
 with_reducible refine C2.mono ?_
 rintro e w5 ⟨u2, rfl, hu, hB⟩
 have HB5 := Lib.hid (HB4.out.trans (hB.mono HB4.out.size))
 obtain ⟨ub, ud, rfl⟩ := hu.ps.len_le
 have HU2 := Lib.hid hu.ps
 simp only [List.length_cons, List.length_nil, Nat.reduceAdd] at HU2 ⊢
 have hS5 := HS2.out.kept hB
 clear C2 hu hB c0 c1 c2
 obtain ⟨w6, hw6⟩ : ∃ w6, w6 = w5.alloc (.cells #[.slice ub 1 ud, .int .i64 0, .int .i64 3] 25) := ⟨_, rfl⟩
 have g6 : Below w5.heap.size w5 w6 := by rw [hw6]; exact (Below.refl _ _).alloc (Nat.le_refl _) _
 have hT : Mf.SA w6 w5.heap.size (.slice ub 1 ud) 0 3 := by
  have := Mf.SA.new w5 (.slice ub 1 ud) 0 3 25
  rwa [← hw6] at this
 have HP6 := Lib.hid (HU2.out.kept g6)
 obtain ⟨b, o, rfl, hpa⟩ := Mf.Ps.at_ (L := [⟨2, 0, ⟨false, 0, ⟨#[]⟩⟩, ⟨false, 0, ⟨#[]⟩⟩⟩]) (HU2.out.kept g6) (i := 0) rfl
 have CS1 := Mf.same_c _ _ ⟨[⟨2, 0, ⟨false, 0, ⟨#[]⟩⟩, ⟨false, 0, ⟨#[]⟩⟩⟩], 0, 3⟩ w6 HP6.out HP6.out (by show 1 ≤ _; decide)
 unfold Mf.sv at CS1
 simp only at CS1
 have p0 : w6.cell? ⟨b, o, none⟩ = some (.int .i64 2) := hpa.c0
 have CS2 := Lib.hid fun (W : World) => Mf.same_no (.slice ua 1 uc) (.slice (some ⟨b, o, none⟩) 1 ud) 0 2 3 (by decide) ⟨_, _, _, rfl⟩ ⟨_, _, _, rfl⟩ W
 have HSA := Lib.hid (hS5.kept g6)
 have HSB := Lib.hid hT
 have HB6 := Lib.hid (HB5.out.trans (g6.mono HB5.out.size))
 obtain ⟨c0, c1, c2⟩ := hS5.kept g6
 obtain ⟨d0, d1, d2⟩ := hT
 rw [hw6] at p0
 clear hS5 g6 hpa HU2
 go_wp2_with fail
 rw [← hw6]
 clear hw6
 (try go_wp2_with fail)
 with_reducible refine CS1.mono ?_
 rintro e w7 ⟨rfl, hB7⟩
 have HB7 := Lib.hid (HB6.out.trans (hB7.mono HB6.out.size))
 obtain ⟨x0, x1, x2⟩ := HSA.out.kept hB7
 obtain ⟨y0, y1, y2⟩ := HSB.out.kept hB7
 clear CS1 hB7 c0 c1 c2 d0 d1 d2 p0
 go_wp2_with fail
 with_reducible refine (CS2.out _).mono ?_
 rintro e w8 ⟨rfl, hB8⟩
 have HB8 := Lib.hid (HB7.out.trans (hB8.mono HB7.out.size))
 clear hB8 x0 x1 x2 y0 y1 y2
 go_wp2
 go_ret
 exact ⟨rfl, HB8.out⟩
end Go.Proofs.YteaglaijkafphaaDoor
namespace Go.Proofs.YteaglaijkafphaaDoor
open Go Go.RowKit
theorem Mf.quad {w : World} {q : Nat} {x y z t : Value} {T : TypeId} (h : w.heap[q]? = some (.cells #[x, y, z, t] T (0, 0))) :
 (w.cell? ⟨q, 0, none⟩ = some x ∧ w.cell? ⟨q, 1, none⟩ = some y ∧ w.cell? ⟨q, 2, none⟩ = some z ∧ w.cell? ⟨q, 3, none⟩ = some t) ∧ w.frozen? ⟨q, 0, none⟩ = false ∧ w.frozen? ⟨q, 1, none⟩ = false ∧ w.frozen? ⟨q, 2, none⟩ = false ∧ w.frozen? ⟨q, 3, none⟩ = false := by
 refine ⟨⟨?_, ?_, ?_, ?_⟩, ?_, ?_, ?_, ?_⟩ <;> simp [World.cell?, World.frozen?, h]
structure Mf.EC (w : World) (b o : Nat) (vd va : Value) (f n : Int) : Prop where
 c0 : w.cell? ⟨b, o, none⟩ = some vd
 c1 : w.cell? ⟨b, o + 1, none⟩ = some va
 c2 : w.cell? ⟨b, o + 2, none⟩ = some (.int .i64 f)
 c3 : w.cell? ⟨b, o + 3, none⟩ = some (.int .i64 n)
theorem Mf.EC.lt {w : World} {b o : Nat} {vd va : Value} {f n : Int} (h : Mf.EC w b o vd va f n) : b < w.heap.size := World.block_lt_of_cell? w _ h.c0
theorem Mf.EC.kept {w w' : World} {b o : Nat} {vd va : Value} {f n : Int} (h : Mf.EC w b o vd va f n) (g : Below w.heap.size w w') : Mf.EC w' b o vd va f n :=
 ⟨(g.cell (p := ⟨b, o, none⟩) h.lt).trans h.c0, (g.cell (p := ⟨b, o + 1, none⟩) h.lt).trans h.c1, (g.cell (p := ⟨b, o + 2, none⟩) h.lt).trans h.c2, (g.cell (p := ⟨b, o + 3, none⟩) h.lt).trans h.c3⟩
def Mf.Es (w : World) (v : Value) (L : List Mf.E) : Prop := ∃ a c, v = .slice a L.length c ∧ (L = [] ∨ ∃ b o, a = some ⟨b, o, none⟩ ∧ ∀ (i : Nat) (e : Mf.E), L[i]? = some e → ∃ vd va, Mf.EC w b (o + i * 4) vd va e.floor e.next ∧ Mf.Is w vd e.drop ∧ Mf.Ps w va e.add)
theorem Mf.Es.at_ {w : World} {a : Option Addr} {c : Nat} {L : List Mf.E} (h : Mf.Es w (.slice a L.length c) L) {i : Nat} {e : Mf.E} (hi : L[i]? = some e) : ∃ b o vd va, a = some ⟨b, o, none⟩ ∧ Mf.EC w b (o + i * 4) vd va e.floor e.next ∧ Mf.Is w vd e.drop ∧ Mf.Ps w va e.add := by
 obtain ⟨a', c', e1, h⟩ := h
 simp only [Value.slice.injEq, true_and] at e1
 obtain ⟨rfl, rfl⟩ := e1
 rcases h with rfl | ⟨b, o, rfl, h⟩
 ·cases hi
 ·obtain ⟨vd, va, h1, h2, h3⟩ := h i e hi
  exact ⟨b, o, vd, va, rfl, h1, h2, h3⟩
theorem Mf.Es.kept {w w' : World} {v : Value} {L : List Mf.E} (h : Mf.Es w v L) (g : Below w.heap.size w w') : Mf.Es w' v L := by
 obtain ⟨a, c, hv, h⟩ := h
 refine ⟨a, c, hv, ?_⟩
 rcases h with h | ⟨b, o, ha, h⟩
 ·exact .inl h
 ·exact .inr ⟨b, o, ha, fun i e hi => by
   obtain ⟨vd, va, h1, h2, h3⟩ := h i e hi
   exact ⟨vd, va, h1.kept g, h2.kept g, h3.kept g⟩⟩
set_option maxRecDepth 100000
structure Mf.Gd (s : Mf.S) (k : Nat) : Prop where
 ok : Mf.Ok s
 fl : Mf.nm s.floor = true
 nx : Mf.nm s.next = true
 len : s.parts.length ≤ k * 1000
theorem Mf.Gd.none : Mf.Gd ⟨[], 0, 0⟩ 0 := ⟨Mf.Ok.none, rfl, rfl, Nat.le_refl _⟩
theorem Mf.Gd.step {s t : Mf.S} {e : Mf.E} {k : Nat} (h : Mf.Gd s k) (he : Mf.ap s e = some t) : Mf.Gd t (k + 1) := by
 have hl := Mf.ap_len he
 obtain ⟨hr, _, _, e1, e2, _⟩ := Mf.ap_some he
 obtain ⟨_, _, _, _, r5, r6⟩ := (Mf.right_iff e).1 hr
 exact ⟨h.ok.step he, by rw [e1]; exact r5, by rw [e2]; exact r6, by have := h.len; omega⟩
theorem Mf.Gd.mono {s : Mf.S} {k : Nat} (h : Mf.Gd s k) : Mf.Gd s (k + 1) := ⟨h.ok, h.fl, h.nx, by have := h.len; omega⟩
theorem Mf.Gd.ids {s : Mf.S} {k : Nat} (h : Mf.Gd s k) : ∀ p ∈ s.parts, Ty.I64 p.id := fun p hp => Mf.nm_i64 (Mf.part_id (h.ok.part p hp))
end Go.Proofs.YteaglaijkafphaaDoor
namespace Go.Proofs.YteaglaijkafphaaDoor
open Go Go.RowKit
structure Mf.Lp (w wr : World) (p : Nat) (u : Value) (s : Mf.S) (k : Nat) : Prop where
 box : wr.heap[p]? = some (.cells #[u, .int .i64 s.floor, .int .i64 s.next] 25 (0, 0))
 own : Mf.Ow (p + 1) wr u s.parts
 gd : Mf.Gd s k
 below : Below w.heap.size w wr
 at_ : w.heap.size ≤ p
 size : p + 1 ≤ wr.heap.size
theorem Mf.Lp.kept {w wr w' : World} {p : Nat} {u : Value} {s : Mf.S} {k : Nat} (h : Mf.Lp w wr p u s k) (g : Below wr.heap.size wr w') : Mf.Lp w w' p u s k :=
 ⟨(g.block p h.size).trans h.box, h.own.kept g, h.gd, h.below.trans (g.mono h.below.size), h.at_, Nat.le_trans h.size g.size⟩
theorem Mf.Lp.more {w wr : World} {p : Nat} {u : Value} {s : Mf.S} {k : Nat} (h : Mf.Lp w wr p u s k) : Mf.Lp w wr p u s (k + 1) := ⟨h.box, h.own, h.gd.mono, h.below, h.at_, h.size⟩
theorem Mf.Lp.set {w wr w1 : World} {p : Nat} {u u' : Value} {s t : Mf.S} {k k' : Nat} (h : Mf.Lp w wr p u s k) (g : Below wr.heap.size wr w1) (hu : Mf.Ow (p + 1) w1 u' t.parts) (hg : Mf.Gd t k') :
 Mf.Lp w (((w1.setCell ⟨p, 0, none⟩ u').setCell ⟨p, 1, none⟩ (.int .i64 t.floor)).setCell ⟨p, 2, none⟩ (.int .i64 t.next)) p u' t k' := by
 have h1 := h.kept g
 refine ⟨?_, Dk.Own.same hu fun b hb => Mf.heap3 _ _ _ _ _ b (by have := (World.ownsRow.lt hu b hb).1; omega), hg, Mf.below3 h1.below h1.at_ _ _ _, h1.at_, by have := h1.size; simp only [World.setCell, Array.size_modify]; exact this⟩
 exact heap_setCell_same _ p 2 _ _ _ (heap_setCell_same _ p 1 _ _ _ (heap_setCell_same w1 p 0 _ _ _ h1.box))
structure Mf.Nw (wr w5 : World) (p q : Nat) (u : Value) (t : Mf.S) : Prop where
 box : w5.heap[q]? = some (.cells #[u, .int .i64 t.floor, .int .i64 t.next] 25 (0, 0))
 own : Mf.Ow (p + 1) w5 u t.parts
 below : Below wr.heap.size wr w5
theorem Mf.Nw.a {wr w3 : World} {p : Nat} {u : Value} {t : Mf.S} (hp : p + 1 ≤ wr.heap.size) (hu : Mf.Ow wr.drew.heap.size w3 u t.parts) (g : Below wr.drew.heap.size wr.drew w3) :
 Mf.Nw wr (w3.alloc (.cells #[u, .int .i64 t.floor, .int .i64 t.next] 25)) p w3.heap.size u t :=
 ⟨heap_alloc_new w3 _, World.ownsRow.alloc (World.ownsRow.mono hu hp) _, ((Kn.below_drewN (Below.refl _ _) 1).trans g).alloc g.size _⟩
theorem Mf.Nw.b {wr w3 : World} {p : Nat} {u : Value} {t : Mf.S} (hp : p + 1 ≤ wr.heap.size) (hu : Mf.Ow (wr.alloc (.cells #[.slice none 0 0, .int .i64 0, .int .i64 0] 25)).drew.heap.size w3 u t.parts)
 (g : Below (wr.alloc (.cells #[.slice none 0 0, .int .i64 0, .int .i64 0] 25)).drew.heap.size (wr.alloc (.cells #[.slice none 0 0, .int .i64 0, .int .i64 0] 25)).drew w3) :
 Mf.Nw wr (((w3.setCell ⟨wr.heap.size, 0, none⟩ u).setCell ⟨wr.heap.size, 1, none⟩ (.int .i64 t.floor)).setCell ⟨wr.heap.size, 2, none⟩ (.int .i64 t.next)) p wr.heap.size u t := by
 have hsz : (wr.alloc (.cells #[.slice none 0 0, .int .i64 0, .int .i64 0] 25)).drew.heap.size = wr.heap.size + 1 := World.size_alloc ..
 have hb := (g.block wr.heap.size (by rw [hsz]; omega)).trans (show (wr.alloc (.cells #[.slice none 0 0, .int .i64 0, .int .i64 0] 25)).drew.heap[wr.heap.size]? = _ from heap_alloc_new wr _)
 have hA : Below wr.heap.size wr (wr.alloc (.cells #[.slice none 0 0, .int .i64 0, .int .i64 0] 25)).drew := Kn.below_drewN ((Below.refl _ _).alloc (Nat.le_refl _) _) 1
 refine ⟨heap_setCell_same _ _ 2 _ _ _ (heap_setCell_same _ _ 1 _ _ _ (heap_setCell_same w3 _ 0 _ _ _ hb)), Dk.Own.same (World.ownsRow.mono hu (by rw [hsz]; omega)) fun b hb => Mf.heap3 _ _ _ _ _ b (by have := (World.ownsRow.lt hu b hb).1; omega), Mf.below3 (hA.trans (g.mono hA.size)) (Nat.le_refl _) _ _ _⟩
end Go.Proofs.YteaglaijkafphaaDoor
namespace Go.Proofs.YteaglaijkafphaaDoor.Ty
theorem head_is (n : Nat) : (head n).toNat = 64 * form n + (if form n = 3 then 0 else n / 256 ^ after (form n)) ∧ (form n ≠ 3 → n / 256 ^ after (form n) < 64) := by
 rcases form_is n with ⟨h1, h⟩ | ⟨_, h1, h⟩ | ⟨_, h1, h⟩ | ⟨_, h⟩
 ·have e : n / 256 ^ 0 = n := by simp
  refine ⟨?_, fun _ => by rw [h]; show n / 256 ^ 0 < 64; omega⟩
  unfold head
  rw [h, toNat_ofNat8 _ (by rw [if_neg (by omega)]; show 64 * 0 + n / 256 ^ 0 < 256; omega)]
 ·have e : (256 : Nat) ^ 1 = 256 := by decide
  refine ⟨?_, fun _ => by rw [h]; show n / 256 ^ 1 < 64; omega⟩
  unfold head
  rw [h, toNat_ofNat8 _ (by rw [if_neg (by omega)]; show 64 * 1 + n / 256 ^ 1 < 256; omega)]
 ·have e : (256 : Nat) ^ 3 = 16777216 := by decide
  refine ⟨?_, fun _ => by rw [h]; show n / 256 ^ 3 < 64; omega⟩
  unfold head
  rw [h, toNat_ofNat8 _ (by rw [if_neg (by omega)]; show 64 * 2 + n / 256 ^ 3 < 256; omega)]
 ·refine ⟨?_, fun hh => absurd h hh⟩
  unfold head
  rw [h, toNat_ofNat8 _ (by rw [if_pos rfl]; omega)]
end Go.Proofs.YteaglaijkafphaaDoor.Ty
namespace Go.Proofs.YteaglaijkafphaaDoor.Ty
theorem low_at : ∀ (a n j : Nat), j < a → (low a n).getD j 0 = UInt8.ofNat (n / 256 ^ (a - 1 - j) % 256)
 | 0, _, _, h => by omega
 | a + 1, n, 0, _ => by rw [low_succ]; simp
 | a + 1, n, j + 1, h => by
   rw [low_succ, List.getD_cons_succ, low_at a n j (by omega), show a + 1 - 1 - (j + 1) = a - 1 - j by omega]
theorem head_mod (n : Nat) (hn : U64 n) : (head n).toNat % 64 = n / 256 ^ after (form n) ∧ (head n).toNat / 64 = form n ∧ (head n).toNat ≤ 192 := by
 obtain ⟨h1, h2⟩ := head_is n
 have := form_le n
 by_cases h3 : form n = 3
 ·have e8 : (256 : Nat) ^ 8 = 18446744073709551616 := by decide
  have ed : n / 256 ^ 8 = 0 := by unfold U64 at hn; omega
  rw [if_pos h3] at h1
  rw [h1, h3]
  refine ⟨?_, by omega, by omega⟩
  show 192 % 64 = n / 256 ^ 8
  omega
 ·rw [if_neg h3] at h1
  have hq := h2 h3
  rw [h1]
  generalize n / 256 ^ after (form n) = q at hq ⊢
  exact ⟨by omega, by omega, by omega⟩
theorem at_zero (n : Nat) (r : List UInt8) : (encU n ++ r).getD 0 0 = head n := rfl
theorem at_succ (n : Nat) (r : List UInt8) (j : Nat) (h : j < after (form n)) : (encU n ++ r).getD (j + 1) 0 = UInt8.ofNat (n / 256 ^ (after (form n) - 1 - j) % 256) := by
 rw [encU_split, List.append_assoc, List.singleton_append, List.getD_cons_succ, ← low_at _ n j h]
 rw [List.getD, List.getD, List.getElem?_append_left (by rw [low_length]; exact h)]
theorem pv_encU (n : Nat) (hn : U64 n) (r : List UInt8) : ∀ j, j ≤ after (form n) → pv (encU n ++ r) (j + 1) = n / 256 ^ (after (form n) - j)
 | 0, _ => by
   show ((encU n ++ r).getD 0 0).toNat % 64 = _
   rw [at_zero, (head_mod n hn).1, Nat.sub_zero]
 | j + 1, h => by
   rw [pv_succ _ (j + 1) (by omega), pv_encU n hn r j (by omega), at_succ n r j (by omega), toNat_ofNat8 _ (Nat.mod_lt _ (by omega))]
   have e : after (form n) - j = after (form n) - 1 - j + 1 := by omega
   rw [e, Nat.pow_succ, ← Nat.div_div_eq_div_mul, show after (form n) - (j + 1) = after (form n) - 1 - j by omega]
   omega
theorem small_le (n : Nat) : small (form n) ≤ n := by
 rcases form_is n with ⟨_, h⟩ | ⟨_, _, h⟩ | ⟨_, _, h⟩ | ⟨_, h⟩ <;> rw [h] <;> simp only [small] <;> omega
theorem num_encU (n : Nat) (hn : U64 n) (r : List UInt8) : num (encU n ++ r) = (n, (encU n).length, 0) := by
 obtain ⟨_, h2, h3⟩ := head_mod n hn
 have hp := pv_encU n hn r (after (form n)) (Nat.le_refl _)
 rw [Nat.sub_self, Nat.pow_zero, Nat.div_one] at hp
 have hl : (encU n ++ r).length = 1 + after (form n) + r.length := by rw [List.length_append, encU_length]
 have e : 1 + after (form n) = after (form n) + 1 := by omega
 rw [num_whole (f := form n) (by omega) (by rw [at_zero]; omega) (by rw [at_zero]; exact h2) (by omega) (by rw [e, hp]; have := small_le n; omega), e, hp, encU_length, e]
theorem pv_div (l : List UInt8) : ∀ (d j : Nat), pv l (j + d + 1) / 256 ^ d = pv l (j + 1)
 | 0, j => by simp
 | d + 1, j => by
   have ih := pv_div l d j
   have hb := (l.getD (j + d + 1) 0).toNat_lt
   rw [show j + (d + 1) + 1 = j + d + 1 + 1 by omega, pv_succ l (j + d + 1) (by omega), Nat.pow_succ, Nat.mul_comm (256 ^ d) 256, ← Nat.div_div_eq_div_mul, ← ih]
   congr 1
   omega
theorem pv_form (l : List UInt8) (f : Nat) (hf : f ≤ 3) (h3 : f = 3 → (l.getD 0 0).toNat % 64 = 0) (hs : small f ≤ pv l (1 + after f)) : form (pv l (1 + after f)) = f := by
 rcases (by omega : f = 0 ∨ f = 1 ∨ f = 2 ∨ f = 3) with rfl | rfl | rfl | rfl
 ·have h1 := pv_lt l 0
  have hs' : 0 ≤ pv l (0 + 1) := by omega
  show form (pv l (0 + 1)) = 0
  unfold form; rw [if_pos (by omega)]
 ·have h1 := pv_lt l 1
  have hs' : 64 ≤ pv l (1 + 1) := hs
  show form (pv l (1 + 1)) = 1
  unfold form; rw [if_neg (by omega), if_pos (by omega)]
 ·have h1 := pv_lt l 3
  have hs' : 16384 ≤ pv l (3 + 1) := hs
  show form (pv l (3 + 1)) = 2
  unfold form; rw [if_neg (by omega), if_neg (by omega), if_pos (by omega)]
 ·have hs' : 1073741824 ≤ pv l (8 + 1) := hs
  show form (pv l (8 + 1)) = 3
  unfold form; rw [if_neg (by omega), if_neg (by omega), if_neg (by omega)]
theorem low_pv (l : List UInt8) : ∀ (a m : Nat), m + a + 1 ≤ l.length → low a (pv l (m + a + 1)) = (l.drop (m + 1)).take a
 | 0, m, _ => by simp [low]
 | a + 1, m, h => by
   rw [low_succ, show m + (a + 1) + 1 = (m + 1) + a + 1 by omega, low_pv l a (m + 1) (by omega), pv_div l a (m + 1), pv_succ l (m + 1) (by omega)]
   have hb := (l.getD (m + 1) 0).toNat_lt
   have hl : m + 1 < l.length := by omega
   rw [List.drop_eq_getElem_cons hl, List.take_succ_cons]
   congr 1
   have e : l.getD (m + 1) 0 = l[m + 1] := by rw [List.getD, List.getElem?_eq_getElem hl]; rfl
   rw [e] at hb ⊢
   rw [show (pv l (m + 1) * 256 + l[m + 1].toNat) % 256 = l[m + 1].toNat by omega]
   simp
theorem encU_num (l : List UInt8) (h : (num l).2.2 = 0) : encU (num l).1 = l.take (num l).2.1 ∧ (num l).2.1 ≤ l.length := by
 rcases num_cases l with ⟨_, hne, f, hf, h1, h2, h3, e, hl, hs⟩ | ⟨h', _⟩
 ·rw [e]
  refine ⟨?_, hl⟩
  have h30 : f = 3 → (l.getD 0 0).toNat % 64 = 0 := by intro h; subst h; omega
  have hfm := pv_form l f hf h30 hs
  show encU (pv l (1 + after f)) = l.take (1 + after f)
  unfold encU
  rw [hfm]
  have hp := low_pv l (after f) 0 (by omega)
  rw [show 0 + after f + 1 = 1 + after f by omega, Nat.zero_add] at hp
  rw [hp]
  obtain ⟨b, r, rfl⟩ : ∃ b r, l = b :: r := by cases l with
   | nil => exact absurd rfl hne
   | cons b r => exact ⟨b, r, rfl⟩
  rw [show 1 + after f = after f + 1 by omega, List.take_succ_cons, List.drop_one, List.tail_cons]
  congr 1
  apply UInt8.toNat_inj.1
  rw [(head_is _).1, show after f + 1 = 1 + after f by omega, hfm]
  have hd := pv_div (b :: r) (after f) 0
  rw [show 0 + after f + 1 = 1 + after f by omega] at hd
  have hb1 : pv (b :: r) (0 + 1) = b.toNat % 64 := rfl
  simp only [List.getD_cons_zero] at h1 h2 h3
  split
  ·rename_i h
   subst h
   omega
  ·rw [hd, hb1]
   omega
 ·omega
end Go.Proofs.YteaglaijkafphaaDoor.Ty
namespace Go.Proofs.YteaglaijkafphaaDoor.Bt
open Go
def num : Nat → (Nat → Bool) → Nat
 | 0, _ => 0
 | w + 1, g => num w g + (g w).toNat * 2 ^ w
theorem num_lt (w : Nat) (g : Nat → Bool) : num w g < 2 ^ w := by
 induction w with
 | zero => simp [num]
 | succ w ih =>
   have : (g w).toNat * 2 ^ w ≤ 2 ^ w := by cases g w <;> simp
   rw [Nat.pow_succ]
   unfold num
   omega
theorem testBit_num (w : Nat) (g : Nat → Bool) (j : Nat) : (num w g).testBit j = (decide (j < w) && g j) := by
 induction w with
 | zero => simp [num]
 | succ w ih =>
   have e : num (w + 1) g = 2 ^ w * (g w).toNat + num w g := by
    show num w g + (g w).toNat * 2 ^ w = _
    rw [Nat.mul_comm, Nat.add_comm]
   rw [e, Nat.testBit_two_pow_mul_add _ (num_lt w g), ih]
   by_cases h : j < w
   ·simp [h, Nat.lt_succ_of_lt h]
   ·rw [if_neg h]
    by_cases h2 : j = w
    ·subst h2
     cases g j <;> simp
    ·have h3 : ¬ j < w + 1 := by omega
     have h4 : (g w).toNat < 2 ^ (j - w) := Nat.lt_of_le_of_lt (Bool.toNat_le _) (Nat.one_lt_two_pow (by omega))
     rw [Nat.testBit_lt_two_pow h4]
     simp [h3]
theorem num_is {w n : Nat} {g : Nat → Bool} (hn : n < 2 ^ w) (h : ∀ j, j < w → n.testBit j = g j) : num w g = n := by
 refine Nat.eq_of_testBit_eq fun j => ?_
 rw [testBit_num]
 by_cases hj : j < w
 ·rw [h j hj]; simp [hj]
 ·rw [Nat.testBit_lt_two_pow (Nat.lt_of_lt_of_le hn (Nat.pow_le_pow_right (by decide) (by omega)))]
  simp [hj]
theorem num_congr {w : Nat} {g h : Nat → Bool} (e : ∀ j, j < w → g j = h j) : num w g = num w h := by
 refine num_is (num_lt w h) fun j hj => ?_
 rw [testBit_num, e j hj]
 simp [hj]
theorem num_add {w : Nat} {g : Nat → Bool} {j : Nat} (hj : j < w) (hg : g j = false) : num w g + 2 ^ j = num w (fun i => g i || decide (i = j)) := by
 induction w with
 | zero => omega
 | succ w ih =>
   unfold num
   by_cases e : j = w
   ·subst e
    have : num j g = num j (fun i => g i || decide (i = j)) := num_congr fun i hi => by
     have : i ≠ j := by omega
     simp [this]
    rw [← this, hg]
    simp
   ·rw [← ih (by omega)]
    have : ¬ w = j := by omega
    simp [this]
    omega
def oct (F : Nat → Bool) (i : Nat) : Nat := num 8 (fun j => F (8 * i + j))
theorem oct_lt (F : Nat → Bool) (i : Nat) : oct F i < 256 := num_lt 8 _
theorem oct_congr {F G : Nat → Bool} {i : Nat} (e : ∀ j, j < 8 → F (8 * i + j) = G (8 * i + j)) : oct F i = oct G i := num_congr e
theorem or_oct (g : Nat → Bool) (n k : Nat) : (num 8 g ||| (n * 2 ^ k % 256)) = num 8 (fun j => g j || (decide (k ≤ j) && n.testBit (j - k))) := by
 refine (num_is (Nat.or_lt_two_pow (n := 8) (num_lt 8 _) (Nat.mod_lt _ (by decide))) fun j hj => ?_).symm
 rw [Nat.testBit_or, testBit_num, Nat.testBit_mod_two_pow, Nat.testBit_mul_two_pow]
 simp [hj]
def laid (F : Nat → Bool) (at_ n : Nat) (x : Nat) : Bool := F x || (decide (x / 8 = at_ / 8) && (decide (at_ ≤ x) && n.testBit (x - at_)))
theorem laid_here (F : Nat → Bool) (at_ n : Nat) : (oct F (at_ / 8) ||| (n * 2 ^ (at_ % 8) % 256)) = oct (laid F at_ n) (at_ / 8) := by
 unfold oct
 rw [or_oct]
 refine num_congr fun j hj => ?_
 unfold laid
 have e1 : (8 * (at_ / 8) + j) / 8 = at_ / 8 := by omega
 have e2 : decide (at_ ≤ 8 * (at_ / 8) + j) = decide (at_ % 8 ≤ j) := by
  rw [decide_eq_decide]; omega
 have e3 : 8 * (at_ / 8) + j - at_ = j - at_ % 8 := by omega
 rw [e1, e2, e3]
 simp
theorem laid_far (F : Nat → Bool) (at_ n i : Nat) (h : i ≠ at_ / 8) : oct F i = oct (laid F at_ n) i := by
 refine oct_congr fun j hj => ?_
 unfold laid
 have e1 : ¬ (8 * i + j) / 8 = at_ / 8 := by omega
 simp [e1]
def putF (F : Nat → Bool) (at_ n : Nat) (x : Nat) : Bool := F x || (decide (at_ ≤ x) && n.testBit (x - at_))
def bit (s : ByteArray) (k : Nat) : Bool := (s.data.toList.getD (k / 8) 0).toNat.testBit (k % 8)
theorem length_data (s : ByteArray) : s.data.toList.length = s.size := by rw [Array.length_toList]; rfl
theorem at_getD (s : ByteArray) (k : Nat) (h : k < s.size) : s[k] = s.data.toList.getD k 0 := by
 have h2 : k < s.data.toList.length := by rw [length_data]; exact h
 rw [List.getD, List.getElem?_eq_getElem h2]; rfl
theorem bit_out (s : ByteArray) (k : Nat) (h : s.size ≤ k / 8) : bit s k = false := by
 unfold bit
 rw [List.getD, List.getElem?_eq_none (by rw [length_data]; exact h)]
 simp
def bytes (sz : Nat) (F : Nat → Bool) : ByteArray := ⟨((List.range sz).map fun i => UInt8.ofNat (oct F i)).toArray⟩
theorem size_bytes (sz : Nat) (F : Nat → Bool) : (bytes sz F).size = sz := by
 rw [← length_data]; simp [bytes]
theorem toNat_oct (F : Nat → Bool) (i : Nat) : (UInt8.ofNat (oct F i)).toNat = oct F i := by
 have := oct_lt F i
 simp [UInt8.toNat_ofNat']; omega
theorem bit_bytes (sz : Nat) (F : Nat → Bool) (k : Nat) : bit (bytes sz F) k = (decide (k < 8 * sz) && F k) := by
 by_cases h : k < 8 * sz
 ·have h2 : k / 8 < sz := by omega
  unfold bit bytes
  rw [List.getD, List.getElem?_map, List.getElem?_range h2]
  show (UInt8.ofNat (oct F (k / 8))).toNat.testBit (k % 8) = _
  rw [toNat_oct, oct, testBit_num]
  have e : 8 * (k / 8) + k % 8 = k := by omega
  have e2 : k % 8 < 8 := by omega
  simp [h, e, e2]
 ·rw [bit_out _ _ (by rw [size_bytes]; omega)]
  simp [h]
theorem bytes_congr {sz : Nat} {F G : Nat → Bool} (e : ∀ x, x < 8 * sz → F x = G x) : bytes sz F = bytes sz G := by
 unfold bytes
 congr 2
 refine List.map_congr_left fun i hi => ?_
 rw [List.mem_range] at hi
 rw [oct_congr fun j hj => e _ (by omega)]
theorem bytes_bit (s : ByteArray) : bytes s.size (bit s) = s := by
 unfold bytes
 have e : ((List.range s.size).map fun i => UInt8.ofNat (oct (bit s) i)) = s.data.toList := by
  refine List.ext_getElem (by rw [length_data]; simp) fun i h1 h2 => ?_
  have h3 : i < s.size := by simpa using h1
  rw [List.getElem_map, List.getElem_range]
  have e2 : oct (bit s) i = (s.data.toList[i]).toNat := by
   refine num_is (s.data.toList[i]).toNat_lt fun j hj => ?_
   have e3 : (8 * i + j) / 8 = i := by omega
   have e4 : (8 * i + j) % 8 = j := by omega
   unfold bit
   rw [e3, e4, List.getD, List.getElem?_eq_getElem h2]
   rfl
  rw [e2]
  simp
 rw [e]
theorem bytes_of {s : ByteArray} {sz : Nat} {F : Nat → Bool} (hs : s.size = sz) (e : ∀ x, x < 8 * sz → F x = bit s x) : bytes sz F = s := by
 subst hs
 rw [bytes_congr e, bytes_bit]
def need (n : Nat) : Nat := (n + 7) / 8
theorem need_room (n : Nat) : n ≤ 8 * need n ∧ 8 * need n < n + 8 := by unfold need; omega
def dirty (s : ByteArray) (n : Nat) : Bool := (List.range (8 * need n)).any fun k => decide (n ≤ k) && bit s k
theorem dirty_iff (s : ByteArray) (n : Nat) : dirty s n = true ↔ ∃ k, k < 8 * need n ∧ n ≤ k ∧ bit s k = true := by
 unfold dirty
 rw [List.any_eq_true]
 constructor
 ·rintro ⟨k, h1, h2⟩
  rw [List.mem_range] at h1
  simp at h2
  exact ⟨k, h1, h2.1, h2.2⟩
 ·rintro ⟨k, h1, h2, h3⟩
  exact ⟨k, List.mem_range.2 h1, by simp [h2, h3]⟩
theorem clean {s : ByteArray} {n k : Nat} (h : dirty s n = false) (h1 : k < 8 * need n) (h2 : n ≤ k) : bit s k = false := by
 rw [Bool.eq_false_iff]
 intro e
 rw [(dirty_iff s n).2 ⟨k, h1, h2, e⟩] at h
 cases h
def chk (s : ByteArray) (n : Nat) : Nat := if s.size < need n then 2 else if need n < s.size then 3 else if dirty s n = true then 5 else 0
theorem chk_ok {s : ByteArray} {n : Nat} (h : chk s n = 0) : s.size = need n ∧ dirty s n = false := by
 unfold chk at h
 split at h
 ·cases h
 ·split at h
  ·cases h
  ·split at h
   ·cases h
   ·rename_i h1 h2 h3
    exact ⟨by omega, by simpa using h3⟩
def Got (s : ByteArray) (at_ d n : Nat) : Prop := n < 2 ^ 64 ∧ ∀ j, n.testBit j = (decide (j < d) && (decide (j < 64) && bit s (at_ + j)))
theorem Got.zero (s : ByteArray) (at_ : Nat) : Got s at_ 0 0 := ⟨by decide, fun j => by simp⟩
theorem Got.next {s : ByteArray} {at_ d n : Nat} (h : Got s at_ d n) (hi : (at_ + d) / 8 < s.size) : Got s at_ (d + (8 - (at_ + d) % 8)) (n ||| (s[(at_ + d) / 8].toNat / 2 ^ ((at_ + d) % 8) * 2 ^ d % 2 ^ 64)) := by
 refine ⟨Nat.or_lt_two_pow h.1 (Nat.mod_lt _ (Nat.two_pow_pos _)), fun j => ?_⟩
 have hb := s[(at_ + d) / 8].toNat_lt
 rw [Nat.testBit_or, h.2 j, Nat.testBit_mod_two_pow, Nat.testBit_mul_two_pow, Nat.testBit_div_two_pow]
 by_cases h64 : j < 64
 ·by_cases h1 : j < d
  ·have h2 : j < d + (8 - (at_ + d) % 8) := by omega
   have h3 : ¬ d ≤ j := by omega
   simp [h64, h1, h2, h3]
  ·have h3 : d ≤ j := by omega
   by_cases h2 : j < d + (8 - (at_ + d) % 8)
   ·have e1 : (at_ + j) / 8 = (at_ + d) / 8 := by omega
    have e2 : (at_ + j) % 8 = j - d + (at_ + d) % 8 := by omega
    have e3 : bit s (at_ + j) = s[(at_ + d) / 8].toNat.testBit (j - d + (at_ + d) % 8) := by
     unfold bit
     rw [e1, e2, ← at_getD s _ hi]
    simp [h64, h1, h2, h3, e3]
   ·have e : s[(at_ + d) / 8].toNat.testBit (j - d + (at_ + d) % 8) = false :=
     Nat.testBit_lt_two_pow (Nat.lt_of_lt_of_le (by simpa using hb) (Nat.pow_le_pow_right (n := 2) (by decide) (by omega : 8 ≤ j - d + (at_ + d) % 8)))
    simp [h64, h1, h2, h3, e]
 ·simp [h64]
def orN : Nat → (Nat → Nat) → Nat
 | 0, _ => 0
 | n + 1, X => orN n X ||| X n
def wid (n : Nat) (X : Nat → Nat) : Nat := bitLen (orN n X)
def pk (n : Nat) (X : Nat → Nat) (w : Nat) (x : Nat) : Bool := decide (x < n * w) && (X (x / w)).testBit (x % w)
theorem div_mid {w i j : Nat} (hj : j < w) : (i * w + j) / w = i ∧ (i * w + j) % w = j := by
 constructor
 ·rw [Nat.mul_comm, Nat.mul_add_div (by omega), Nat.div_eq_of_lt hj]; rfl
 ·rw [Nat.mul_comm, Nat.mul_add_mod, Nat.mod_eq_of_lt hj]
theorem pk_at {n : Nat} (X : Nat → Nat) (w i j : Nat) (hi : i < n) (hj : j < w) : pk n X w (i * w + j) = (X i).testBit j := by
 obtain ⟨d, m⟩ := div_mid (i := i) hj
 have h : i * w + j < n * w := by
  have : (i + 1) * w ≤ n * w := Nat.mul_le_mul_right _ hi
  rw [Nat.succ_mul] at this
  omega
 unfold pk
 rw [d, m]
 simp [h]
theorem num_pk {n : Nat} {X : Nat → Nat} {w i : Nat} (hi : i < n) (h : X i < 2 ^ w) : num w (fun j => pk n X w (i * w + j)) = X i := num_is h fun j hj => (pk_at X w i j hi hj).symm
theorem mid_lt {n w i j : Nat} (hi : i < n) (hj : j < w) : i * w + j < n * w := by
 have : (i + 1) * w ≤ n * w := Nat.mul_le_mul_right _ hi
 rw [Nat.succ_mul] at this
 omega
theorem back {n : Nat} {X : Nat → Nat} {w i : Nat} (hi : i < n) (h : X i < 2 ^ w) : num w (fun j => bit (bytes (need (n * w)) (pk n X w)) (i * w + j)) = X i := by
 rw [← num_pk hi h]
 refine num_congr fun j hj => ?_
 have h1 := mid_lt hi hj
 have h2 := (need_room (n * w)).1
 have h3 : i * w + j < 8 * need (n * w) := by omega
 rw [bit_bytes]
 simp [h3]
theorem only {s : ByteArray} {n w : Nat} (h : chk s (n * w) = 0) : bytes (need (n * w)) (pk n (fun i => num w (fun j => bit s (i * w + j))) w) = s := by
 obtain ⟨hs, hd⟩ := chk_ok h
 refine bytes_of hs fun x hx => ?_
 unfold pk
 by_cases h1 : x < n * w
 ·have hw : 0 < w := by
   rcases Nat.eq_zero_or_pos w with h0 | h0
   ·subst h0; simp at h1
   ·exact h0
  have h2 : x % w < w := Nat.mod_lt _ hw
  have e : x / w * w + x % w = x := by rw [Nat.mul_comm]; exact Nat.div_add_mod x w
  simp [h1, testBit_num, h2, e]
 ·rw [clean hd hx (by omega)]
  simp [h1]
def tr (n : Nat) (T : Nat → Bool) (x : Nat) : Bool := decide (x < n) && T x
theorem tr_add (T : Nat → Bool) (i : Nat) (h : T i = true) : oct (tr i T) (i / 8) + 2 ^ (i % 8) = oct (tr (i + 1) T) (i / 8) := by
 unfold oct
 rw [num_add (by omega) (by unfold tr; have : ¬ 8 * (i / 8) + i % 8 < i := by omega
                            simp [this])]
 refine num_congr fun j hj => ?_
 unfold tr
 by_cases h1 : j = i % 8
 ·subst h1
  have e : 8 * (i / 8) + i % 8 = i := by omega
  simp [e, h]
 ·by_cases h2 : 8 * (i / 8) + j < i
  ·have h3 : 8 * (i / 8) + j < i + 1 := by omega
   simp [h1, h2, h3]
  ·have h3 : ¬ 8 * (i / 8) + j < i + 1 := by omega
   simp [h1, h2, h3]
theorem tr_far (T : Nat → Bool) (i k : Nat) (h : k ≠ i / 8) : oct (tr i T) k = oct (tr (i + 1) T) k := by
 refine oct_congr fun j hj => ?_
 unfold tr
 have : decide (8 * k + j < i) = decide (8 * k + j < i + 1) := by rw [decide_eq_decide]; omega
 rw [this]
end Go.Proofs.YteaglaijkafphaaDoor.Bt
