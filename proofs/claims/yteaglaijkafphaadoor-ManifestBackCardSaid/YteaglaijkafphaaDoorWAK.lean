import Derived.Test.YteaglaijkafphaaDoorWAJ
import Derived.Deep.RegionHeld3
import Derived.Deep.OwnRows
import Derived.Test.YteaglaijkafphaaDoorWAF
import Derived.Test.YteaglaijkafphaaDoorWAH
import Derived.Test.YteaglaijkafphaaDoorWAI
import Derived.Laws.Rows
import Derived.Laws.Tables
import Derived.Laws.CopyOwn
namespace Go.Proofs.YteaglaijkafphaaDoor
section
open Go Go.RowKit
abbrev Mf.z8 : Array Value := #[.int .i64 0, .int .i64 0, .bool false, .int .i64 0, .string ⟨#[]⟩, .bool false, .int .i64 0, .string ⟨#[]⟩]
theorem Mf.oct {w : World} {q : Nat} {a b c d e f g h : Value} {t : TypeId} (H : w.heap[q]? = some (.cells #[a, b, c, d, e, f, g, h] t (0, 0))) :
 (w.cell? ⟨q, 0, none⟩ = some a ∧ w.cell? ⟨q, 1, none⟩ = some b ∧ w.cell? ⟨q, 2, none⟩ = some c ∧ w.cell? ⟨q, 3, none⟩ = some d ∧ w.cell? ⟨q, 4, none⟩ = some e ∧ w.cell? ⟨q, 5, none⟩ = some f ∧ w.cell? ⟨q, 6, none⟩ = some g ∧ w.cell? ⟨q, 7, none⟩ = some h) ∧
  w.frozen? ⟨q, 0, none⟩ = false ∧ w.frozen? ⟨q, 1, none⟩ = false ∧ w.frozen? ⟨q, 2, none⟩ = false ∧ w.frozen? ⟨q, 3, none⟩ = false ∧ w.frozen? ⟨q, 4, none⟩ = false ∧ w.frozen? ⟨q, 5, none⟩ = false ∧ w.frozen? ⟨q, 6, none⟩ = false ∧ w.frozen? ⟨q, 7, none⟩ = false := by
 refine ⟨⟨?_, ?_, ?_, ?_, ?_, ?_, ?_, ?_⟩, ?_, ?_, ?_, ?_, ?_, ?_, ?_, ?_⟩ <;> simp [World.cell?, World.frozen?, H]
structure Mf.PB (r b q : Nat) (w0 w : World) (cs : Array Value) (s : Mf.St) : Prop where
 rdr : Mf.Rdr r b w s
 by2 : Mf.By2 r b w0 w
 box : w.heap[q + 1]? = some (.cells cs 44 (0, 0))
 res : w.heap[q]? = some (.cells Mf.z8 44 (0, 0))
 hq : w0.heap.size ≤ q
 hr : r < q
 hb : b < q
theorem Mf.PB.went {r b q : Nat} {w0 w w' : World} {cs : Array Value} {s s' : Mf.St} {v : Value} {e : Ending} (h : Mf.PB r b q w0 w cs s) (g : Mf.Went r b w v s' e w') : Mf.PB r b q w0 w' cs s' :=
 ⟨g.2.1, h.by2.trans g.2.2, (g.2.2.block (q + 1) (lt_of_block h.box) (by have := h.hr; omega) (by have := h.hb; omega)).trans h.box, (g.2.2.block q (lt_of_block h.res) (by have := h.hr; omega) (by have := h.hb; omega)).trans h.res, h.hq, h.hr, h.hb⟩
theorem Mf.PB.put {r b q i : Nat} {w0 w : World} {cs cs' : Array Value} {s : Mf.St} {v : Value} (h : Mf.PB r b q w0 w cs s) (g : (w.setCell ⟨q + 1, i, none⟩ v).heap[q + 1]? = some (.cells cs' 44 (0, 0))) : Mf.PB r b q w0 (w.setCell ⟨q + 1, i, none⟩ v) cs' s :=
 ⟨h.rdr.other (by have := h.hr; omega) (by have := h.hb; omega) (by have := h.hr; have := h.rdr.gr; omega) v, h.by2.new (by have := h.hq; omega) v, g, (Below.heap_setCell _ _ _ _ (by show q ≠ q + 1; omega)).trans h.res, h.hq, h.hr, h.hb⟩
set_option maxHeartbeats 4000000 in
set_option maxRecDepth 100000 in
theorem Mf.part_c (r b : Nat) (s : Mf.St) (w : World) (h : Mf.Rdr r b w s) :
 Calls Tryd.prog 52 #[.pointer (some ⟨r, 0, none⟩)] w (Mf.Went r b w (Mf.sP s).1.val (Mf.sP s).2) := by
 obtain ⟨⟨i, s1⟩, h1⟩ : ∃ x, Mf.sC 999999999 s = x := ⟨_, rfl⟩
 obtain ⟨⟨v, s2⟩, h2⟩ : ∃ x, Mf.sC 3 s1 = x := ⟨_, rfl⟩
 obtain ⟨⟨⟨ln, li, ls⟩, s3⟩, h3⟩ : ∃ x, Mf.sV s2 = x := ⟨_, rfl⟩
 obtain ⟨⟨⟨hn, hi, hs⟩, s4⟩, h4⟩ : ∃ x, Mf.sV s3 = x := ⟨_, rfl⟩
 have HE : Mf.sP s = (⟨i, v, ⟨ln, li, ls⟩, ⟨hn, hi, hs⟩⟩, s4) := by
  unfold Mf.sP Mf.sb Mf.sp
  simp only [h1, h2, h3, h4]
 have C1 : ∀ W, Mf.Rdr r b W s → Calls Tryd.prog 51 #[.pointer (some ⟨r, 0, none⟩), .int .i64 999999999] W (Mf.Went r b W (.int .i64 i) s1) := fun W h => by
  have := Mf.number_c r b s 999999999 W h (by decide)
  rw [h1] at this
  exact this
 have C2 : ∀ W, Mf.Rdr r b W s1 → Calls Tryd.prog 51 #[.pointer (some ⟨r, 0, none⟩), .int .i64 3] W (Mf.Went r b W (.int .i64 v) s2) := fun W h => by
  have := Mf.number_c r b s1 3 W h (by decide)
  rw [h2] at this
  exact this
 have C3 : ∀ W, Mf.Rdr r b W s2 → Calls Tryd.prog 71 #[.pointer (some ⟨r, 0, none⟩)] W (Mf.Went r b W (.agg #[.bool ln, .int .i64 li, .string ls]) s3) := fun W h => by
  have := Mf.bound_c r b s2 W h
  rw [h3] at this
  exact this
 have C4 : ∀ W, Mf.Rdr r b W s3 → Calls Tryd.prog 71 #[.pointer (some ⟨r, 0, none⟩)] W (Mf.Went r b W (.agg #[.bool hn, .int .i64 hi, .string hs]) s4) := fun W h => by
  have := Mf.bound_c r b s3 W h
  rw [h4] at this
  exact this
 rw [HE]
 have hlt := h.lt
 obtain ⟨w2, hw2⟩ : ∃ w2, w2 = (w.alloc (.cells Mf.z8 44)).alloc (.cells Mf.z8 44) := ⟨_, rfl⟩
 have hA1 : Below w.heap.size w (w.alloc (.cells Mf.z8 44)) := (Below.refl _ _).alloc (Nat.le_refl _) _
 have hA : Below w.heap.size w w2 := by rw [hw2]; exact hA1.alloc hA1.size _
 have hsz : (w.alloc (.cells Mf.z8 44)).heap.size = w.heap.size + 1 := World.size_alloc ..
 have hb1 := heap_alloc_new (w.alloc (.cells Mf.z8 44)) (.cells Mf.z8 44)
 rw [hsz, ← hw2] at hb1
 have hb0 : w2.heap[w.heap.size]? = some (.cells Mf.z8 44 (0, 0)) := by
  rw [hw2]
  exact (((Below.refl _ (w.alloc (.cells Mf.z8 44))).alloc (Nat.le_refl _) (.cells Mf.z8 44)).block w.heap.size (by rw [hsz]; omega)).trans (heap_alloc_new w _)
 have P2 := Lib.hid (Mf.PB.mk (h.kept hA) (Mf.By2.ofBelow (r := r) (b := b) hA) hb1 hb0 (Nat.le_refl _) hlt.1 hlt.2)
 have K1 := Lib.hid C1
 have K2 := Lib.hid C2
 have K3 := Lib.hid C3
 have K4 := Lib.hid C4
 unfold Mf.z8 at hw2
 clear h h1 h2 h3 h4 HE C1 C2 C3 C4 hA1 hA hsz hb1 hb0
 go_enter Tryd.func52, Tryd.ntmps52
 go_wp2_with fail
 rw [← hw2]
 clear hw2
 with_reducible refine (K1.out w2 P2.out.rdr).mono ?_
 rintro e wa0 hg
 have Q0 := Lib.hid (P2.out.went hg)
 obtain ⟨rfl, -, -⟩ := hg
 obtain ⟨⟨c0, c1, c2, c3, c4, c5, c6, c7⟩, f0, f1, f2, f3, f4, f5, f6, f7⟩ := Mf.oct Q0.out.box
 have R0 := Lib.hid (Mf.PB.put (cs' := #[.int .i64 i, .int .i64 0, .bool false, .int .i64 0, .string ⟨#[]⟩, .bool false, .int .i64 0, .string ⟨#[]⟩]) Q0.out (heap_setCell_same _ _ 0 _ _ _ (Q0.out).box))
 obtain ⟨wb0, hw0⟩ : ∃ x, x = (wa0.setCell ⟨w.heap.size + 1, 0, none⟩ (.int .i64 i)) := ⟨_, rfl⟩
 rw [← hw0] at R0
 go_wp2_with fail
 rw [← hw0]
 clear hw0 c0 c1 c2 c3 c4 c5 c6 c7 f0 f1 f2 f3 f4 f5 f6 f7
 with_reducible refine (K2.out wb0 R0.out.rdr).mono ?_
 rintro e wa1 hg
 have Q1 := Lib.hid (R0.out.went hg)
 obtain ⟨rfl, -, -⟩ := hg
 obtain ⟨⟨c0, c1, c2, c3, c4, c5, c6, c7⟩, f0, f1, f2, f3, f4, f5, f6, f7⟩ := Mf.oct Q1.out.box
 have R1 := Lib.hid (Mf.PB.put (cs' := #[.int .i64 i, .int .i64 v, .bool false, .int .i64 0, .string ⟨#[]⟩, .bool false, .int .i64 0, .string ⟨#[]⟩]) Q1.out (heap_setCell_same _ _ 1 _ _ _ (Q1.out).box))
 obtain ⟨wb1, hw1⟩ : ∃ x, x = (wa1.setCell ⟨w.heap.size + 1, 1, none⟩ (.int .i64 v)) := ⟨_, rfl⟩
 rw [← hw1] at R1
 go_wp2_with fail
 rw [← hw1]
 clear hw1 c0 c1 c2 c3 c4 c5 c6 c7 f0 f1 f2 f3 f4 f5 f6 f7
 with_reducible refine (K3.out wb1 R1.out.rdr).mono ?_
 rintro e wa2 hg
 have Q2 := Lib.hid (R1.out.went hg)
 obtain ⟨rfl, -, -⟩ := hg
 obtain ⟨⟨c0, c1, c2, c3, c4, c5, c6, c7⟩, f0, f1, f2, f3, f4, f5, f6, f7⟩ := Mf.oct Q2.out.box
 have R2 := Lib.hid (Mf.PB.put (cs' := #[.int .i64 i, .int .i64 v, .bool ln, .int .i64 li, .string ls, .bool false, .int .i64 0, .string ⟨#[]⟩]) (Mf.PB.put (cs' := #[.int .i64 i, .int .i64 v, .bool ln, .int .i64 li, .string ⟨#[]⟩, .bool false, .int .i64 0, .string ⟨#[]⟩]) (Mf.PB.put (cs' := #[.int .i64 i, .int .i64 v, .bool ln, .int .i64 0, .string ⟨#[]⟩, .bool false, .int .i64 0, .string ⟨#[]⟩]) Q2.out (heap_setCell_same _ _ 2 _ _ _ (Q2.out).box)) (heap_setCell_same _ _ 3 _ _ _ ((Mf.PB.put (cs' := #[.int .i64 i, .int .i64 v, .bool ln, .int .i64 0, .string ⟨#[]⟩, .bool false, .int .i64 0, .string ⟨#[]⟩]) Q2.out (heap_setCell_same _ _ 2 _ _ _ (Q2.out).box))).box)) (heap_setCell_same _ _ 4 _ _ _ ((Mf.PB.put (cs' := #[.int .i64 i, .int .i64 v, .bool ln, .int .i64 li, .string ⟨#[]⟩, .bool false, .int .i64 0, .string ⟨#[]⟩]) (Mf.PB.put (cs' := #[.int .i64 i, .int .i64 v, .bool ln, .int .i64 0, .string ⟨#[]⟩, .bool false, .int .i64 0, .string ⟨#[]⟩]) Q2.out (heap_setCell_same _ _ 2 _ _ _ (Q2.out).box)) (heap_setCell_same _ _ 3 _ _ _ ((Mf.PB.put (cs' := #[.int .i64 i, .int .i64 v, .bool ln, .int .i64 0, .string ⟨#[]⟩, .bool false, .int .i64 0, .string ⟨#[]⟩]) Q2.out (heap_setCell_same _ _ 2 _ _ _ (Q2.out).box))).box))).box))
 obtain ⟨wb2, hw2⟩ : ∃ x, x = (((wa2.setCell ⟨w.heap.size + 1, 2, none⟩ (.bool ln)).setCell ⟨w.heap.size + 1, 3, none⟩ (.int .i64 li)).setCell ⟨w.heap.size + 1, 4, none⟩ (.string ls)) := ⟨_, rfl⟩
 rw [← hw2] at R2
 go_wp2_with fail
 rw [← hw2]
 clear hw2 c0 c1 c2 c3 c4 c5 c6 c7 f0 f1 f2 f3 f4 f5 f6 f7
 with_reducible refine (K4.out wb2 R2.out.rdr).mono ?_
 rintro e wa3 hg
 have Q3 := Lib.hid (R2.out.went hg)
 obtain ⟨rfl, -, -⟩ := hg
 obtain ⟨⟨c0, c1, c2, c3, c4, c5, c6, c7⟩, f0, f1, f2, f3, f4, f5, f6, f7⟩ := Mf.oct Q3.out.box
 have R3 := Lib.hid (Mf.PB.put (cs' := #[.int .i64 i, .int .i64 v, .bool ln, .int .i64 li, .string ls, .bool hn, .int .i64 hi, .string hs]) (Mf.PB.put (cs' := #[.int .i64 i, .int .i64 v, .bool ln, .int .i64 li, .string ls, .bool hn, .int .i64 hi, .string ⟨#[]⟩]) (Mf.PB.put (cs' := #[.int .i64 i, .int .i64 v, .bool ln, .int .i64 li, .string ls, .bool hn, .int .i64 0, .string ⟨#[]⟩]) Q3.out (heap_setCell_same _ _ 5 _ _ _ (Q3.out).box)) (heap_setCell_same _ _ 6 _ _ _ ((Mf.PB.put (cs' := #[.int .i64 i, .int .i64 v, .bool ln, .int .i64 li, .string ls, .bool hn, .int .i64 0, .string ⟨#[]⟩]) Q3.out (heap_setCell_same _ _ 5 _ _ _ (Q3.out).box))).box)) (heap_setCell_same _ _ 7 _ _ _ ((Mf.PB.put (cs' := #[.int .i64 i, .int .i64 v, .bool ln, .int .i64 li, .string ls, .bool hn, .int .i64 hi, .string ⟨#[]⟩]) (Mf.PB.put (cs' := #[.int .i64 i, .int .i64 v, .bool ln, .int .i64 li, .string ls, .bool hn, .int .i64 0, .string ⟨#[]⟩]) Q3.out (heap_setCell_same _ _ 5 _ _ _ (Q3.out).box)) (heap_setCell_same _ _ 6 _ _ _ ((Mf.PB.put (cs' := #[.int .i64 i, .int .i64 v, .bool ln, .int .i64 li, .string ls, .bool hn, .int .i64 0, .string ⟨#[]⟩]) Q3.out (heap_setCell_same _ _ 5 _ _ _ (Q3.out).box))).box))).box))
 obtain ⟨wb3, hw3⟩ : ∃ x, x = (((wa3.setCell ⟨w.heap.size + 1, 5, none⟩ (.bool hn)).setCell ⟨w.heap.size + 1, 6, none⟩ (.int .i64 hi)).setCell ⟨w.heap.size + 1, 7, none⟩ (.string hs)) := ⟨_, rfl⟩
 rw [← hw3] at R3
 have HP := Lib.hid (Mf.By2.sets (q := w.heap.size) (Nat.le_refl _) [(0, .int .i64 i), (1, .int .i64 v), (2, .bool ln), (3, .int .i64 li), (4, .string ls), (5, .bool hn), (6, .int .i64 hi), (7, .string hs)] R3.out.by2)
 have HQ := Lib.hid (Mf.Rdr.sets (q := w.heap.size) hlt.1 hlt.2 [(0, .int .i64 i), (1, .int .i64 v), (2, .bool ln), (3, .int .i64 li), (4, .string ls), (5, .bool hn), (6, .int .i64 hi), (7, .string hs)] R3.out.rdr)
 obtain ⟨⟨d0, d1, d2, d3, d4, d5, d6, d7⟩, -⟩ := Mf.oct R3.out.box
 obtain ⟨⟨y0, y1, y2, y3, y4, y5, y6, y7⟩, z0, z1, z2, z3, z4, z5, z6, z7⟩ := Mf.oct R3.out.res
 rw [hw3] at d0 d1 d2 d3 d4 d5 d6 d7 y0 y1 y2 y3 y4 y5 y6 y7 z0 z1 z2 z3 z4 z5 z6 z7 HP HQ
 clear hw3
 go_wp2
 (try simp only [Exit.inBlock, Exit.then])
 refine bodyPost_ret (v := .agg #[.int .i64 i, .int .i64 v, .bool ln, .int .i64 li, .string ls, .bool hn, .int .i64 hi, .string hs]) ?_ rfl ⟨rfl, HQ.out, HP.out⟩
 rw [Mf.results_cell rfl]
 go_simp
end
section
open Go Go.RowKit
def Mf.Oi (base : Nat) (w : World) (v : Value) (L : List Int) : Prop := Dk.Own 3 1 Mf.ic base w v L
theorem Mf.Oi.is {base : Nat} {w : World} {v : Value} {L : List Int} (h : Mf.Oi base w v L) : Mf.Is w v L := Mf.At.of (Dk.Own.at Mf.ic_len h)
theorem Mf.Oi.nil (base : Nat) (w : World) : Mf.Oi base w (.slice none 0 0) [] := Dk.Own.nil base w
theorem Mf.step_int {base : Nat} {w0 : World} {v : Value} {M : List Int} (K : List Int) (hb : base ≤ w0.heap.size) (hown : Mf.Oi base w0 v M) (hl : M.length + K.length ≤ 1500000000000)
 {ops : Array Oper} {o : Oper} {a : Act} {Kx : Act → World → Prop} {Q : Exit → Act → World → Prop} {E : Prop} (s x : Operand) (u : Value) (hgd : o.guard = none)
 (ho : o.op = .call { callee := .builtin .append, args := #[s, x], argTypes := #[32, 32] })
 (hs : a.eval s = v) (hx : a.eval x = u) (hu : Dk.Src Mf.ic w0 u K)
 (h : ∀ v' w', Mf.Oi base w' v' (M ++ K) → Ty.Grew w0 w' v v' → Kx (a.put o.dst v') w') :
 if Region.wanted o (yielded ops a.tmps) = true then Oper.wp Tryd.prog o a w0 Kx Q else E :=
 Dk.step_appendB 32 _ 8 Tryd.underlying32 Mf.infoI rfl (by decide) Mf.ic_len Mf.ic_one K hb hown (by omega) (by omega) s x u hgd ho hs hx hu h
abbrev Mf.z4 : Array Value := #[.slice none 0 0, .slice none 0 0, .int .i64 0, .int .i64 0]
structure Mf.XB (r b q : Nat) (w0 w : World) (vd va : Value) (f n : Int) (D : List Int) (A : List Mf.P) (s : Mf.St) : Prop where
 rdr : Mf.Rdr r b w s
 by2 : Mf.By2 r b w0 w
 box : w.heap[q + 1]? = some (.cells #[vd, va, .int .i64 f, .int .i64 n] 37 (0, 0))
 res : w.heap[q]? = some (.cells Mf.z4 37 (0, 0))
 dr : Mf.Oi (q + 2) w vd D
 ad : Mf.Ow (q + 2) w va A
 hq : w0.heap.size ≤ q
 hr : r < q
 hb : b < q
 size : q + 2 ≤ w.heap.size
theorem Mf.XB.by {r b q : Nat} {w0 w w' : World} {vd va : Value} {f n : Int} {D : List Int} {A : List Mf.P} {s s' : Mf.St} (h : Mf.XB r b q w0 w vd va f n D A s) (h1 : Mf.Rdr r b w' s') (h2 : Mf.By2 r b w w') : Mf.XB r b q w0 w' vd va f n D A s' :=
 ⟨h1, h.by2.trans h2, (h2.block (q + 1) (lt_of_block h.box) (by have := h.hr; omega) (by have := h.hb; omega)).trans h.box, (h2.block q (lt_of_block h.res) (by have := h.hr; omega) (by have := h.hb; omega)).trans h.res,
  Dk.Own.same h.dr fun j hj => h2.block j (World.ownsRow.lt h.dr j hj).2 (by have := (World.ownsRow.lt h.dr j hj).1; have := h.hr; omega) (by have := (World.ownsRow.lt h.dr j hj).1; have := h.hb; omega),
  Dk.Own.same h.ad fun j hj => h2.block j (World.ownsRow.lt h.ad j hj).2 (by have := (World.ownsRow.lt h.ad j hj).1; have := h.hr; omega) (by have := (World.ownsRow.lt h.ad j hj).1; have := h.hb; omega),
  h.hq, h.hr, h.hb, Nat.le_trans h.size h2.size⟩
theorem Mf.XB.went {r b q : Nat} {w0 w w' : World} {vd va v : Value} {f n : Int} {D : List Int} {A : List Mf.P} {s s' : Mf.St} {e : Ending} (h : Mf.XB r b q w0 w vd va f n D A s) (g : Mf.Went r b w v s' e w') : Mf.XB r b q w0 w' vd va f n D A s' := h.by g.2.1 g.2.2
theorem Mf.XB.kept {r b q : Nat} {w0 w w' : World} {vd va : Value} {f n : Int} {D : List Int} {A : List Mf.P} {s : Mf.St} (h : Mf.XB r b q w0 w vd va f n D A s) (g : Below w.heap.size w w') : Mf.XB r b q w0 w' vd va f n D A s := h.by (h.rdr.kept g) (Mf.By2.ofBelow g)
theorem Mf.XB.drops {r b q : Nat} {w0 w w' : World} {vd va v' : Value} {f n : Int} {D : List Int} {A : List Mf.P} {D' : List Int} {s : Mf.St} (h : Mf.XB r b q w0 w vd va f n D A s) (hg : Ty.Grew w w' vd v') (ho : Mf.Oi (q + 2) w' v' D') :
 Mf.XB r b q w0 (w'.setCell ⟨q + 1, 0, none⟩ v') v' va f n D' A s := by
 have hoff : ∀ j, j < q + 2 → some j ≠ vd.ownBlock := fun j hj e => by have := (World.ownsRow.lt h.dr j e.symm).1; omega
 have hw : ∀ j, j < q + 2 → j ≠ q + 1 → (w'.setCell ⟨q + 1, 0, none⟩ v').heap[j]? = w.heap[j]? := fun j hj hne =>
  (Below.heap_setCell _ _ _ _ (by show j ≠ q + 1; exact hne)).trans (hg.by_.block j (by have := h.size; omega) (hoff j hj))
 have hr := h.hr
 have hb := h.hb
 have hq := h.hq
 have hG := h.rdr.gr
 have hGb := h.rdr.gb
 have hsz := h.size
 have hot : Mf.Ow (q + 2) (w'.setCell ⟨q + 1, 0, none⟩ v') va A := Dk.Own.same h.ad fun j hj => (Below.heap_setCell _ _ _ _ (by show j ≠ q + 1; have := (World.ownsRow.lt h.ad j hj).1; omega)).trans (hg.by_.block j (World.ownsRow.lt h.ad j hj).2 fun e => by
  obtain ⟨c1, e1⟩ := Dk.Own.typed h.dr j e.symm
  obtain ⟨c2, e2⟩ := Dk.Own.typed h.ad j hj
  exact Mf.apart_of e1 e2 (by decide) rfl)
 have hnew : Mf.Oi (q + 2) (w'.setCell ⟨q + 1, 0, none⟩ v') v' D' := Dk.Own.same ho fun j hj => Below.heap_setCell _ _ _ _ (by show j ≠ q + 1; have := (World.ownsRow.lt ho j hj).1; omega)
 refine ⟨⟨(hw b (by omega) (by omega)).trans h.rdr.cur, (hw r (by omega) (by omega)).trans h.rdr.box, h.rdr.ne, Ty.Tabs.kept h.rdr.tabs (by have := hg.by_.size; simp only [World.setCell, Array.size_modify]; exact this) (fun k hk => hw k (by omega) (by omega)), h.rdr.gb, h.rdr.gr, h.rdr.short⟩, ?_, ?_, (hw q (by omega) (by omega)).trans h.res, hnew, hot, h.hq, h.hr, h.hb, by have := hg.by_.size; simp only [World.setCell, Array.size_modify]; omega⟩
 ·exact Mf.By2.new ⟨hg.by_.os.trans h.by2.os, hg.by_.tape.trans h.by2.tape, hg.by_.output.trans h.by2.output, Nat.le_trans h.by2.size hg.by_.size, fun k hk h1 h2 => (hg.by_.block k (Nat.lt_of_lt_of_le hk h.by2.size) (hoff k (by omega))).trans (h.by2.block k hk h1 h2)⟩ (by omega) v'
 ·exact heap_setCell_same _ _ 0 _ _ _ ((hg.by_.block (q + 1) (by omega) (hoff _ (by omega))).trans h.box)
theorem Mf.XB.adds {r b q : Nat} {w0 w w' : World} {vd va v' : Value} {f n : Int} {D : List Int} {A : List Mf.P} {A' : List Mf.P} {s : Mf.St} (h : Mf.XB r b q w0 w vd va f n D A s) (hg : Ty.Grew w w' va v') (ho : Mf.Ow (q + 2) w' v' A') :
 Mf.XB r b q w0 (w'.setCell ⟨q + 1, 1, none⟩ v') vd v' f n D A' s := by
 have hoff : ∀ j, j < q + 2 → some j ≠ va.ownBlock := fun j hj e => by have := (World.ownsRow.lt h.ad j e.symm).1; omega
 have hw : ∀ j, j < q + 2 → j ≠ q + 1 → (w'.setCell ⟨q + 1, 1, none⟩ v').heap[j]? = w.heap[j]? := fun j hj hne =>
  (Below.heap_setCell _ _ _ _ (by show j ≠ q + 1; exact hne)).trans (hg.by_.block j (by have := h.size; omega) (hoff j hj))
 have hr := h.hr
 have hb := h.hb
 have hq := h.hq
 have hG := h.rdr.gr
 have hGb := h.rdr.gb
 have hsz := h.size
 have hot : Mf.Oi (q + 2) (w'.setCell ⟨q + 1, 1, none⟩ v') vd D := Dk.Own.same h.dr fun j hj => (Below.heap_setCell _ _ _ _ (by show j ≠ q + 1; have := (World.ownsRow.lt h.dr j hj).1; omega)).trans (hg.by_.block j (World.ownsRow.lt h.dr j hj).2 fun e => by
  obtain ⟨c1, e1⟩ := Dk.Own.typed h.ad j e.symm
  obtain ⟨c2, e2⟩ := Dk.Own.typed h.dr j hj
  exact Mf.apart_of e1 e2 (by decide) rfl)
 have hnew : Mf.Ow (q + 2) (w'.setCell ⟨q + 1, 1, none⟩ v') v' A' := Dk.Own.same ho fun j hj => Below.heap_setCell _ _ _ _ (by show j ≠ q + 1; have := (World.ownsRow.lt ho j hj).1; omega)
 refine ⟨⟨(hw b (by omega) (by omega)).trans h.rdr.cur, (hw r (by omega) (by omega)).trans h.rdr.box, h.rdr.ne, Ty.Tabs.kept h.rdr.tabs (by have := hg.by_.size; simp only [World.setCell, Array.size_modify]; exact this) (fun k hk => hw k (by omega) (by omega)), h.rdr.gb, h.rdr.gr, h.rdr.short⟩, ?_, ?_, (hw q (by omega) (by omega)).trans h.res, hot, hnew, h.hq, h.hr, h.hb, by have := hg.by_.size; simp only [World.setCell, Array.size_modify]; omega⟩
 ·exact Mf.By2.new ⟨hg.by_.os.trans h.by2.os, hg.by_.tape.trans h.by2.tape, hg.by_.output.trans h.by2.output, Nat.le_trans h.by2.size hg.by_.size, fun k hk h1 h2 => (hg.by_.block k (Nat.lt_of_lt_of_le hk h.by2.size) (hoff k (by omega))).trans (h.by2.block k hk h1 h2)⟩ (by omega) v'
 ·exact heap_setCell_same _ _ 1 _ _ _ ((hg.by_.block (q + 1) (by omega) (hoff _ (by omega))).trans h.box)
theorem Mf.XB.num {r b q i : Nat} {w0 w : World} {vd va : Value} {f n f' n' : Int} {D : List Int} {A : List Mf.P} {s : Mf.St} {x : Value} (h : Mf.XB r b q w0 w vd va f n D A s) (hb : (w.setCell ⟨q + 1, i, none⟩ x).heap[q + 1]? = some (.cells #[vd, va, .int .i64 f', .int .i64 n'] 37 (0, 0))) :
 Mf.XB r b q w0 (w.setCell ⟨q + 1, i, none⟩ x) vd va f' n' D A s :=
 ⟨h.rdr.other (by have := h.hr; omega) (by have := h.hb; omega) (by have := h.hr; have := h.rdr.gr; omega) x, h.by2.new (by have := h.hq; omega) x, hb, (Below.heap_setCell _ _ _ _ (by show q ≠ q + 1; omega)).trans h.res,
  Dk.Own.same h.dr fun j hj => Below.heap_setCell _ _ _ _ (by show j ≠ q + 1; have := (World.ownsRow.lt h.dr j hj).1; omega), Dk.Own.same h.ad fun j hj => Below.heap_setCell _ _ _ _ (by show j ≠ q + 1; have := (World.ownsRow.lt h.ad j hj).1; omega), h.hq, h.hr, h.hb, by have := h.size; simp only [World.setCell, Array.size_modify]; exact this⟩
theorem Mf.sC_nat (most : Nat) (s : Mf.St) : ∃ n : Nat, (Mf.sC most s).1 = (n : Int) ∧ n ≤ most := by
 unfold Mf.sC
 split
 ·exact ⟨0, rfl, Nat.zero_le _⟩
 ·exact ⟨_, rfl, by omega⟩
end
section
open Go Go.RowKit
def Mf.sc (x : Value × Int × Int) : List Value := [x.1, .int .i64 x.2.1, .int .i64 x.2.2]
theorem Mf.infoS : (Tryd.prog.info? 25).map (fun i => (i.zero, i.size, i.bytes)) = some (some (.agg #[.slice none 0 0, .int .i64 0, .int .i64 0]), 3, 40) := by kernel_rfl
abbrev Mf.T3 := (Option Addr × Nat × Nat) × Int × Int
def Mf.sc3 (x : Mf.T3) : List Value := [.slice x.1.1 x.1.2.1 x.1.2.2, .int .i64 x.2.1, .int .i64 x.2.2]
theorem Mf.sc3_len (x : Mf.T3) : (Mf.sc3 x).length = 3 := rfl
theorem Mf.sc3_one (x : Mf.T3) : ∀ u ∈ Mf.sc3 x, u.oneCell' = true := by
 intro u hu
 simp only [Mf.sc3, List.mem_cons, List.not_mem_nil, or_false] at hu
 rcases hu with rfl | rfl | rfl <;> rfl
def Mf.Os (base : Nat) (w : World) (v : Value) (L : List Mf.T3) : Prop := Dk.Own 25 3 Mf.sc3 base w v L
theorem Mf.Os.nil (base : Nat) (w : World) : Mf.Os base w (.slice none 0 0) [] := Dk.Own.nil base w
theorem Mf.wpList_state {base : Nat} {w0 : World} {v : Value} {M : List Mf.T3} (K : List Mf.T3) (hown : Mf.Os base w0 v M) (hb : base ≤ w0.heap.size) (hl : M.length + K.length ≤ 1000000000000) {u : Value} (hu : Dk.Src Mf.sc3 w0 u K)
 {ops : Array Oper} {rest : List Oper} {o : Oper} {a : Act} {Q : Exit → Act → World → Prop} (s x : Operand) (hgd : Region.wanted o (yielded ops a.tmps) = true)
 (ho : o.op = .call { callee := .builtin .append, args := #[s, x], argTypes := #[33, 33] })
 (hs : a.eval s = v) (hx : a.eval x = u)
 (h : ∀ v' w', Mf.Os base w' v' (M ++ K) → Ty.Grew w0 w' v v' → wpList Tryd.prog ops Q rest (a.put o.dst v') w') :
 wpList Tryd.prog ops Q (o :: rest) a w0 :=
 Dk.wpList_append 33 _ 40 Tryd.underlying33 Mf.infoS rfl (by decide) Mf.sc3_len Mf.sc3_one K hown hb (by omega) (by omega) hu s x hgd ho hs hx h
theorem Mf.wpList_int {base : Nat} {w0 : World} {v : Value} {M : List Int} (K : List Int) (hown : Mf.Oi base w0 v M) (hb : base ≤ w0.heap.size) (hl : M.length + K.length ≤ 1000000000000) {u : Value} (hu : Dk.Src Mf.ic w0 u K)
 {ops : Array Oper} {rest : List Oper} {o : Oper} {a : Act} {Q : Exit → Act → World → Prop} (s x : Operand) (hgd : Region.wanted o (yielded ops a.tmps) = true)
 (ho : o.op = .call { callee := .builtin .append, args := #[s, x], argTypes := #[32, 32] })
 (hs : a.eval s = v) (hx : a.eval x = u)
 (h : ∀ v' w', Mf.Oi base w' v' (M ++ K) → Ty.Grew w0 w' v v' → wpList Tryd.prog ops Q rest (a.put o.dst v') w') :
 wpList Tryd.prog ops Q (o :: rest) a w0 :=
 Dk.wpList_append 32 _ 8 Tryd.underlying32 Mf.infoI rfl (by decide) Mf.ic_len Mf.ic_one K hown hb (by omega) (by omega) hu s x hgd ho hs hx h
def Mf.Rd3 (base : Nat) (w : World) (L : List Mf.T3) (S : List Mf.S) : Prop := L.length = S.length ∧ ∀ (i : Nat) (x : Mf.T3) (s : Mf.S), L[i]? = some x → S[i]? = some s → x.2 = (s.floor, s.next) ∧ Mf.Ow base w (.slice x.1.1 x.1.2.1 x.1.2.2) s.parts
theorem Mf.Rd3.nil (base : Nat) (w : World) : Mf.Rd3 base w [] [] := ⟨rfl, fun _ _ _ h => nomatch h⟩
theorem Mf.Rd3.snoc {base : Nat} {w : World} {L : List Mf.T3} {S : List Mf.S} (h : Mf.Rd3 base w L S) {x : Mf.T3} {s : Mf.S} (hx : x.2 = (s.floor, s.next)) (hp : Mf.Ow base w (.slice x.1.1 x.1.2.1 x.1.2.2) s.parts) : Mf.Rd3 base w (L ++ [x]) (S ++ [s]) := by
 refine ⟨by simp [h.1], fun i y t hy ht => ?_⟩
 by_cases hi : i < L.length
 ·rw [List.getElem?_append_left hi] at hy
  rw [List.getElem?_append_left (by rw [← h.1]; exact hi)] at ht
  exact h.2 i y t hy ht
 ·have hl : i = L.length := by
   have := (List.getElem?_eq_some_iff.1 hy).1
   rw [List.length_append, List.length_singleton] at this
   omega
  subst hl
  rw [List.getElem?_append_right (Nat.le_refl _), Nat.sub_self] at hy
  rw [List.getElem?_append_right (by rw [h.1]; exact Nat.le_refl _), h.1, Nat.sub_self] at ht
  obtain rfl : x = y := by simpa using hy
  obtain rfl : s = t := by simpa using ht
  exact ⟨hx, hp⟩
theorem Mf.Rd3.stay {base : Nat} {w w' : World} {L : List Mf.T3} {S : List Mf.S} (h : Mf.Rd3 base w L S) (g : ∀ (j : Nat) (cs : Array Value), base ≤ j → w.heap[j]? = some (.cells cs 44 (0, 0)) → w'.heap[j]? = w.heap[j]?) : Mf.Rd3 base w' L S :=
 ⟨h.1, fun i x s hx hs => ⟨(h.2 i x s hx hs).1, Dk.Own.same (h.2 i x s hx hs).2 fun j hj => by
  obtain ⟨cs, hc⟩ := Dk.Own.typed (h.2 i x s hx hs).2 j hj
  exact g j cs (World.ownsRow.lt (h.2 i x s hx hs).2 j hj).1 hc⟩⟩
theorem Mf.Rd3.kept {base : Nat} {w w' : World} {L : List Mf.T3} {S : List Mf.S} (h : Mf.Rd3 base w L S) (g : Below w.heap.size w w') : Mf.Rd3 base w' L S := h.stay fun j _ _ hc => g.block j (lt_of_block hc)
theorem Mf.Rd3.grew {base : Nat} {w w' : World} {v v' : Value} {e : TypeId} {L : List Mf.T3} {S : List Mf.S} (h : Mf.Rd3 base w L S) (g : Ty.Grew w w' v v') (ht : ∀ b, v.ownBlock = some b → ∃ cs : Array Value, w.heap[b]? = some (.cells cs e (0, 0))) (he : e ≠ 44) : Mf.Rd3 base w' L S :=
 h.stay fun j cs _ hc => g.by_.block j (lt_of_block hc) fun e2 => by
  obtain ⟨c2, h2⟩ := ht j e2.symm
  exact Mf.apart_of h2 hc he rfl
theorem Mf.Rd3.set {base p i : Nat} {w : World} {u : Value} {L : List Mf.T3} {S : List Mf.S} (h : Mf.Rd3 base w L S) (hp : p < base) : Mf.Rd3 base (w.setCell ⟨p, i, none⟩ u) L S :=
 h.stay fun j _ hj _ => Below.heap_setCell _ _ _ _ (by show j ≠ p; omega)
end
section
open Go Go.RowKit
structure Mf.Bb (w wr : World) (p : Nat) (u : Value) (f n : Int) (A : List Mf.P) (vE vS : Value) (E : List Int) (T : List Mf.T3) (SS : List Mf.S) : Prop where
 box : wr.heap[p]? = some (.cells #[u, .int .i64 f, .int .i64 n] 25 (0, 0))
 own : Mf.Ow (p + 1) wr u A
 below : Below w.heap.size w wr
 at_ : w.heap.size ≤ p
 size : p + 1 ≤ wr.heap.size
 ends : Mf.Oi (p + 1) wr vE E
 sts : Mf.Os (p + 1) wr vS T
 rd : Mf.Rd3 (p + 1) wr T SS
theorem Mf.Bb.kept {w wr w' : World} {p : Nat} {u : Value} {f n : Int} {A : List Mf.P} {vE vS : Value} {E : List Int} {T : List Mf.T3} {SS : List Mf.S} (h : Mf.Bb w wr p u f n A vE vS E T SS) (g : Below wr.heap.size wr w') : Mf.Bb w w' p u f n A vE vS E T SS :=
 ⟨(g.block p h.size).trans h.box, h.own.kept g, h.below.trans (g.mono h.below.size), h.at_, Nat.le_trans h.size g.size, Dk.Own.kept h.ends g, Dk.Own.kept h.sts g, h.rd.kept g⟩
theorem Mf.Bb.set {w wr w1 : World} {p : Nat} {u u' : Value} {f n f' n' : Int} {A A' : List Mf.P} {vE vS : Value} {E : List Int} {T : List Mf.T3} {SS : List Mf.S} (h : Mf.Bb w wr p u f n A vE vS E T SS) (g : Below wr.heap.size wr w1) (hu : Mf.Ow (p + 1) w1 u' A') :
 Mf.Bb w (((w1.setCell ⟨p, 0, none⟩ u').setCell ⟨p, 1, none⟩ (.int .i64 f')).setCell ⟨p, 2, none⟩ (.int .i64 n')) p u' f' n' A' vE vS E T SS := by
 have h1 := h.kept g
 have hoff : ∀ {e : TypeId} {k : Nat} {α : Type} {enc : α → List Value} {v : Value} {L : List α}, Dk.Own e k enc (p + 1) w1 v L → Dk.Own e k enc (p + 1) (((w1.setCell ⟨p, 0, none⟩ u').setCell ⟨p, 1, none⟩ (.int .i64 f')).setCell ⟨p, 2, none⟩ (.int .i64 n')) v L := fun ho => Dk.Own.same ho fun b hb => Mf.heap3 _ _ _ _ _ b (by have := (World.ownsRow.lt ho b hb).1; omega)
 exact ⟨heap_setCell_same _ p 2 _ _ _ (heap_setCell_same _ p 1 _ _ _ (heap_setCell_same w1 p 0 _ _ _ h1.box)), hoff hu, Mf.below3 h1.below h1.at_ _ _ _, h1.at_, by have := h1.size; simp only [World.setCell, Array.size_modify]; exact this, hoff h1.ends, hoff h1.sts, ((h1.rd.set (Nat.lt_succ_self p)).set (Nat.lt_succ_self p)).set (Nat.lt_succ_self p)⟩
theorem Mf.grew_below {B : Nat} {w w' w0 : World} {v v' : Value} (g : Ty.Grew w w' v v') (h : Below B w0 w) (hB : B ≤ w.heap.size) (hv : ∀ b, v.ownBlock = some b → B ≤ b) : Below B w0 w' :=
 h.trans ⟨g.by_.os, g.by_.tape, g.by_.output, g.by_.size, fun j hj => g.by_.block j (by omega) (fun e => by have := hv j e.symm; omega)⟩
theorem Mf.Bb.growE {w wr w' : World} {p : Nat} {u : Value} {f n : Int} {A : List Mf.P} {vE vE' vS : Value} {E E' : List Int} {T : List Mf.T3} {SS : List Mf.S} (h : Mf.Bb w wr p u f n A vE vS E T SS) (g : Ty.Grew wr w' vE vE') (hE : Mf.Oi (p + 1) w' vE' E') : Mf.Bb w w' p u f n A vE' vS E' T SS :=
 have hlo : ∀ b, vE.ownBlock = some b → p + 1 ≤ b := fun b hb => (World.ownsRow.lt h.ends b hb).1
 have hty : ∀ b, vE.ownBlock = some b → ∃ cs : Array Value, wr.heap[b]? = some (.cells cs 3 (0, 0)) := fun b hb => Dk.Own.typed h.ends b hb
 ⟨(g.by_.block p h.size (fun e => by have := hlo p e.symm; omega)).trans h.box,
   Dk.Own.same h.own fun j hj => g.by_.block j (World.ownsRow.lt h.own j hj).2 fun e => by obtain ⟨c1, e1⟩ := hty j e.symm; obtain ⟨c2, e2⟩ := Dk.Own.typed h.own j hj; exact Mf.apart_of e1 e2 (by decide) rfl,
   Mf.grew_below g h.below h.below.size (fun b hb => by have := hlo b hb; have := h.at_; omega), h.at_, Nat.le_trans h.size g.by_.size, hE,
   Dk.Own.same h.sts fun j hj => g.by_.block j (World.ownsRow.lt h.sts j hj).2 fun e => by obtain ⟨c1, e1⟩ := hty j e.symm; obtain ⟨c2, e2⟩ := Dk.Own.typed h.sts j hj; exact Mf.apart_of e1 e2 (by decide) rfl,
   h.rd.grew g hty (by decide)⟩
theorem Mf.Bb.growS {w wr w' : World} {p : Nat} {f n : Int} {A : List Mf.P} {vE vS vS' : Value} {E : List Int} {T : List Mf.T3} {SS : List Mf.S} {a : Option Addr} {l c : Nat} (h : Mf.Bb w wr p (.slice a l c) f n A vE vS E T SS) (g : Ty.Grew wr w' vS vS') (hS : Mf.Os (p + 1) w' vS' (T ++ [((a, l, c), f, n)])) : Mf.Bb w w' p (.slice a l c) f n A vE vS' E (T ++ [((a, l, c), f, n)]) (SS ++ [⟨A, f, n⟩]) :=
 have hlo : ∀ b, vS.ownBlock = some b → p + 1 ≤ b := fun b hb => (World.ownsRow.lt h.sts b hb).1
 have hty : ∀ b, vS.ownBlock = some b → ∃ cs : Array Value, wr.heap[b]? = some (.cells cs 25 (0, 0)) := fun b hb => Dk.Own.typed h.sts b hb
 have hown : Mf.Ow (p + 1) w' (.slice a l c) A := Dk.Own.same h.own fun j hj => g.by_.block j (World.ownsRow.lt h.own j hj).2 fun e => by obtain ⟨c1, e1⟩ := hty j e.symm; obtain ⟨c2, e2⟩ := Dk.Own.typed h.own j hj; exact Mf.apart_of e1 e2 (by decide) rfl
 ⟨(g.by_.block p h.size (fun e => by have := hlo p e.symm; omega)).trans h.box, hown,
   Mf.grew_below g h.below h.below.size (fun b hb => by have := hlo b hb; have := h.at_; omega), h.at_, Nat.le_trans h.size g.by_.size,
   Dk.Own.same h.ends fun j hj => g.by_.block j (World.ownsRow.lt h.ends j hj).2 fun e => by obtain ⟨c1, e1⟩ := hty j e.symm; obtain ⟨c2, e2⟩ := Dk.Own.typed h.ends j hj; exact Mf.apart_of e1 e2 (by decide) rfl,
   hS, (h.rd.grew g hty (by decide)).snoc rfl hown⟩
def Mf.ens (es : List Mf.E) : List Int := (List.range es.length).map fun i => ((Mf.en es i : Nat) : Int)
theorem Mf.ens_len (es : List Mf.E) : (Mf.ens es).length = es.length := by unfold Mf.ens; simp
theorem Mf.ens_get {es : List Mf.E} {i : Nat} (h : i < es.length) : (Mf.ens es)[i]? = some ((Mf.en es i : Nat) : Int) := by unfold Mf.ens; simp [h]
theorem Mf.en_app {es : List Mf.E} (e : Mf.E) {i : Nat} (h : i < es.length) : Mf.en (es ++ [e]) i = Mf.en es i := by
 unfold Mf.en
 rw [List.take_append_of_le_length (by omega)]
theorem Mf.en_last (es : List Mf.E) (e : Mf.E) : Mf.en (es ++ [e]) es.length = (Mf.tx (es ++ [e])).length := by
 unfold Mf.en
 rw [List.take_of_length_le (by simp)]
theorem Mf.ens_snoc (es : List Mf.E) (e : Mf.E) : Mf.ens (es ++ [e]) = Mf.ens es ++ [(((Mf.tx (es ++ [e])).length : Nat) : Int)] := by
 unfold Mf.ens
 rw [List.length_append, List.length_singleton, List.range_succ, List.map_append, List.map_singleton, Mf.en_last]
 congr 1
 refine List.map_congr_left fun i hi => ?_
 rw [Mf.en_app e (List.mem_range.1 hi)]
structure Mf.Bs (es : List Mf.E) (s : Mf.S) (SS : List Mf.S) : Prop where
 vs : Mf.Vs es
 aps : Mf.aps ⟨[], 0, 0⟩ es = some s
 len : SS.length = es.length
 each : ∀ i, i < es.length → Mf.aps ⟨[], 0, 0⟩ (es.take (i + 1)) = SS[i]?
 gd : Mf.Gd s es.length
theorem Mf.Bs.none : Mf.Bs [] ⟨[], 0, 0⟩ [] := ⟨(fun _ h => nomatch h), rfl, rfl, fun _ h => absurd h (Nat.not_lt_zero _), Mf.Gd.none⟩
theorem Mf.Bs.step {es : List Mf.E} {s t : Mf.S} {SS : List Mf.S} {e : Mf.E} (h : Mf.Bs es s SS) (hr : Mf.right e = true) (hi : ∀ p ∈ e.add, p.i64) (he : Mf.ap s e = some t) : Mf.Bs (es ++ [e]) t (SS ++ [t]) := by
 have ha := Mf.aps_snoc h.aps he
 refine ⟨fun x hx => ?_, ha, by simp [h.len], fun i hi => ?_, by rw [List.length_append]; exact h.gd.step he⟩
 ·rcases List.mem_append.1 hx with hx | hx
  ·exact h.vs x hx
  ·rw [List.mem_singleton.1 hx]; exact ⟨hr, hi⟩
 ·rw [List.length_append, List.length_singleton] at hi
  rcases Nat.lt_or_ge i es.length with h1 | h1
  ·rw [List.take_append_of_le_length (by omega), h.each i h1, List.getElem?_append_left (by rw [h.len]; exact h1)]
  ·obtain rfl : i = es.length := by omega
   rw [List.take_of_length_le (by simp), ha, List.getElem?_append_right (by rw [h.len]; exact Nat.le_refl _), h.len, Nat.sub_self]
   rfl
def Mf.nth (SS : List Mf.S) (m : Nat) : Mf.S := if m = 0 then ⟨[], 0, 0⟩ else SS.getD (m - 1) ⟨[], 0, 0⟩
theorem Mf.Bs.nth {es : List Mf.E} {s : Mf.S} {SS : List Mf.S} (h : Mf.Bs es s SS) {m : Nat} (hm : m ≤ es.length) : Mf.aps ⟨[], 0, 0⟩ (es.take m) = some (Mf.nth SS m) := by
 unfold Mf.nth
 cases m with
 | zero => rfl
 | succ m =>
   rw [if_neg (by omega), h.each m (by omega), Nat.add_sub_cancel, List.getD_eq_getElem?_getD]
   have : m < SS.length := by rw [h.len]; omega
   rw [List.getElem?_eq_getElem this]
   rfl
theorem Mf.Bs.cut {es : List Mf.E} {s : Mf.S} {SS : List Mf.S} (h : Mf.Bs es s SS) {k m : Nat} (h1 : m ≤ es.length) (h2 : ∀ j, j < m → Mf.en es j ≤ k) (h3 : m = es.length ∨ k < Mf.en es m) : Mf.rr ((Mf.tx es).take k) = some (Mf.nth SS m) := by
 rw [Mf.rr_take h.vs k, Mf.whole_en h1 h2 h3, h.nth h1]
theorem Mf.Bs.all {es : List Mf.E} {s : Mf.S} {SS : List Mf.S} (h : Mf.Bs es s SS) : Mf.rr (Mf.tx es) = some s := by
 have h1 := Mf.rr_take h.vs (Mf.tx es).length
 rw [List.take_length] at h1
 have h2 : Fr.whole (es.map Mf.enc) (Mf.tx es).length = es.length := Mf.whole_en (Nat.le_refl _) (fun j hj => by
  unfold Mf.en
  have h5 := Mf.en_mono (es := es) (i := j) (j := es.length - 1) (by omega)
  unfold Mf.en at h5
  rw [show es.length - 1 + 1 = es.length by omega, List.take_length] at h5
  exact h5) (.inl rfl)
 rw [h1, h2, List.take_length, h.aps]
end
section
open Go.RowKit
def Fr.all (l : List UInt8) : Nat × List Fr.Str := if (Fr.scan l).1 ≠ 0 then ((Fr.scan l).1, []) else if (Fr.scan l).2.2 < l.length then (2, []) else (0, (Fr.scan l).2.1)
def Fr.GotA (w : World) (r : Nat × List Fr.Str) (e : Ending) (w' : World) : Prop :=
 ∃ v, e = .returned (.tuple #[v, .int .i64 ((r.1 : Nat) : Int)]) ∧ Tx.At w'.heap.size w' v r.2 ∧ Below w.heap.size w w'
theorem Fr.GotA.good {w w' : World} {r : Nat × List Fr.Str} {v : Value} {L : List Fr.Str} (hr : r = (0, L)) (h : Tx.At w'.heap.size w' v L) (g : Below w.heap.size w w') : Fr.GotA w r (.returned (.tuple #[v, .int .i64 0])) w' :=
 ⟨_, by rw [hr]; rfl, by rw [hr]; exact h, g⟩
end
section
open Go.RowKit
def Fr.half (j : Nat) : Value := .int .u32 ((Fr.Tn 4 j : Nat) : Int)
theorem Fr.nib (r : Nat) : Fr.Tn 4 r = r / 16 ^^^ Fr.Tn 4 (r % 16) := Fr.Tn_split 4 r
theorem Fr.Tn8 (r : Nat) : Fr.Tn 8 r = Fr.Tn 4 (Fr.Tn 4 r) := Fr.Tn_add 4 4 r
theorem Fr.nib_eq {X Y Z : Nat} (hX : X < 4294967296) (hY : Y = X / 16) (hZ : Z = X % 16) : bits .xor .u32 (Y : Int) ((Fr.Tn 4 Z : Nat) : Int) = ((Fr.Tn 4 X : Nat) : Int) := by
 have h : bits .xor .u32 (Y : Int) ((Fr.Tn 4 Z : Nat) : Int) = ((Y ^^^ Fr.Tn 4 Z : Nat) : Int) := u32_xor_nat _ _ (by omega) (Fr.Tn_lt (by omega))
 rw [h, hY, hZ, ← Fr.nib]
def Fr.zeros : Array Value := #[.int .u32 0, .int .u32 0, .int .u32 0, .int .u32 0, .int .u32 0, .int .u32 0, .int .u32 0, .int .u32 0, .int .u32 0, .int .u32 0, .int .u32 0, .int .u32 0, .int .u32 0, .int .u32 0, .int .u32 0, .int .u32 0]
def Fr.Tab (w : World) (g : Nat) : Prop := g < w.heap.size ∧ ∀ j, j < 16 → w.cell? ⟨g, j, none⟩ = some (.int .u32 ((Fr.Tn 4 j : Nat) : Int))
theorem Fr.Tab.kept {w w' : World} {g : Nat} (h : Fr.Tab w g) (b : Below w.heap.size w w') : Fr.Tab w' g := by
 refine ⟨Nat.lt_of_lt_of_le h.1 b.size, fun j hj => ?_⟩
 have := h.2 j hj
 unfold World.cell? at this ⊢
 rw [b.block g h.1]
 exact this
set_option maxHeartbeats 1000000 in
set_option maxRecDepth 100000 in
theorem Fr.half_c (g X : Nat) (hX : X < 4294967296) (w : World) (hT : Fr.Tab w g) :
 Calls Tryd.prog 69 #[.pointer (some ⟨g, 0, none⟩), .int .u32 (X : Int)] w fun e w' => e = .returned (.int .u32 ((Fr.Tn 4 X : Nat) : Int)) ∧ w' = w := by
 obtain ⟨Y, hY⟩ : ∃ Y, Y = X / 16 := ⟨_, rfl⟩
 obtain ⟨Z, hZ⟩ : ∃ Z, Z = X % 16 := ⟨_, rfl⟩
 have hd : (X : Int) / 16 = (Y : Int) := by omega
 have ha : bits .and .u32 (X : Int) 15 = (Z : Int) := by
  have := u32_and_nat X 15 hX (by decide)
  refine this.trans ?_
  rw [hZ, show (15 : Nat) = 2 ^ 4 - 1 from rfl, Nat.and_two_pow_sub_one_eq_mod]
 have hZ16 : Z < 16 := by omega
 have hZi : (Z : Int) < 16 := by omega
 have hZ0 : (0 : Int) ≤ (Z : Int) := by omega
 have c0 := hT.2 Z hZ16
 have hn := Fr.nib_eq hX hY hZ
 generalize Fr.Tn 4 Z = U at c0 hn
 generalize Fr.Tn 4 X = X1 at hn ⊢
 clear hY hZ hT
 go_enter Tryd.func69, Tryd.ntmps69
 go_wp2
 go_ret
 exact ⟨rfl, rfl⟩
set_option maxHeartbeats 1000000 in
set_option maxRecDepth 100000 in
theorem Fr.steps_c (w : World) : Calls Tryd.prog 24 #[] w fun e w' => ∃ g, e = .returned (.pointer (some ⟨g, 0, none⟩)) ∧ Fr.Tab w' g ∧ Below w.heap.size w w' := by
 have hb2 : Below w.heap.size w (w.alloc (.cells Fr.zeros 93)) := (Below.refl _ w).alloc (Nat.le_refl _) _
 have h1 : (w.alloc (.cells Fr.zeros 93)).rowIs w.heap.size 93 16 (Bt.upTo 0 Fr.half (.int .u32 0)) := by
  refine ⟨Fr.zeros, heap_alloc_new w (.cells Fr.zeros 93), rfl, fun i hi => ?_⟩
  have e : Bt.upTo 0 Fr.half (.int .u32 0) i = .int .u32 0 := by unfold Bt.upTo; rw [if_neg (by omega)]
  rw [e]
  rcases (by omega : i = 0 ∨ i = 1 ∨ i = 2 ∨ i = 3 ∨ i = 4 ∨ i = 5 ∨ i = 6 ∨ i = 7 ∨ i = 8 ∨ i = 9 ∨ i = 10 ∨ i = 11 ∨ i = 12 ∨ i = 13 ∨ i = 14 ∨ i = 15) with rfl | rfl | rfl | rfl | rfl | rfl | rfl | rfl | rfl | rfl | rfl | rfl | rfl | rfl | rfl | rfl <;> rfl
 have HLT : Hid (∀ j k, k < 16 → Fr.Tn j k < 4294967296) := Lib.hid fun j k hk => Fr.Tn_lt (by omega)
 have HB2 := Lib.hid hb2
 have H1 := Lib.hid h1
 clear hb2 h1
 go_enter Tryd.func24, Tryd.ntmps24
 go_wp2
 change Code.wp _ _ _ _ (w.alloc (.cells Fr.zeros 93))
 generalize w.alloc (.cells Fr.zeros 93) = w2 at HB2 H1 ⊢
 go_loopw [7] (fun i wr => ∃ k : Nat, k ≤ 16 ∧ i = .int .i64 k ∧ wr.rowIs w.heap.size 93 16 (Bt.upTo k Fr.half (.int .u32 0)) ∧ Below w.heap.size w wr) (fun i _ => 16 - (intOf i).toNat)
 case atStart => exact ⟨0, by omega, rfl, H1.out, HB2.out⟩
 case round =>
  obtain ⟨k, hk, rfl, hR, hB⟩ := hrel
  have HR := Lib.hid hR
  have HB := Lib.hid hB
  clear hR hB HB2 H1
  have hk0 : (0 : Int) ≤ (k : Int) := by omega
  by_cases hl : k < 16
  ·have hki : (k : Int) < 16 := by omega
   have HTL : Hid (∀ j, Fr.Tn j k < 4294967296) := Lib.hid fun j => HLT.out j k hl
   have HHF : Hid (Fr.half k = .int .u32 ((Fr.Tn 4 k : Nat) : Int)) := Lib.hid rfl
   go_wp2_with fail
   go_loop [3, 4, 12] (fun r o j => ∃ i : Nat, i ≤ 4 ∧ j = .int .i64 i ∧ r = .int .u32 (Fr.Tn i k : Nat)) (fun _ _ j => 4 - (intOf j).toNat)
   case atStart => exact ⟨0, by omega, rfl, rfl⟩
   case round =>
    obtain ⟨i, hi, rfl, rfl⟩ := hrel
    have hi0 : (0 : Int) ≤ (i : Int) := by omega
    by_cases hi4 : i < 4
    ·have hii : (i : Int) < 4 := by omega
     have hT := HTL.out i
     have HTN := Lib.hid (Fr.Tn_last i k)
     generalize Fr.Tn i k = Y at hT HTN ⊢
     obtain ⟨Z, hZ⟩ : ∃ Z, Z = Y / 2 := ⟨_, rfl⟩
     have hd : (Y : Int) / 2 = (Z : Int) := by omega
     have hZl : Z < 4294967296 := by omega
     have hand : bits .and .u32 (Y : Int) 1 = ((Y % 2 : Nat) : Int) := by
      have := u32_and_nat Y 1 hT (by decide)
      rwa [Nat.and_one_is_mod] at this
     rcases Nat.mod_two_eq_zero_or_one Y with hm | hm
     ·rw [hm] at hand
      have HE := Lib.hid (HTN.out.trans (Fr.T_even hm))
      rw [← hZ] at HE
      clear hZ hm
      go_wp2
      go_round
      case rel => exact ⟨i + 1, by omega, by simp, by rw [HE.out]⟩
      case measure => simp [intOf]; omega
     ·rw [hm] at hand
      have HE := Lib.hid (HTN.out.trans (Fr.T_odd hm))
      rw [← hZ] at HE
      have hx2 : bits .xor .u32 (Z : Int) 2197175160 = ((Z ^^^ 2197175160 : Nat) : Int) := u32_xor_nat Z 2197175160 hZl (by decide)
      clear hZ hm
      go_wp2
      go_round
      case rel => exact ⟨i + 1, by omega, by simp, by rw [HE.out]⟩
      case measure => simp [intOf]; omega
    ·obtain rfl : i = 4 := by omega
     have c0 := HR.out.cell hl
     have f0 := HR.out.frozen k
     go_wp2
     go_roundw
     case rel => exact ⟨k + 1, by omega, by simp, Bt.upTo_next HR.out rfl, HB.out.trans (Bt.below_set (Nat.le_refl _) _)⟩
     case measure => simp [intOf]; omega
  ·obtain rfl : k = 16 := by omega
   have hall : Fr.Tab wr w.heap.size := ⟨HR.out.lt, fun j hj => by
    have hc := HR.out.cell hj
    rw [hc]
    unfold Bt.upTo
    rw [if_pos hj]
    rfl⟩
   have HA := Lib.hid hall
   clear hall
   have h16 : (16 : Int) < 16 ↔ False := by simp
   go_wp2
   go_ret
   exact ⟨_, rfl, HA.out, HB.out⟩
end
section
open Go.RowKit
set_option maxHeartbeats 1000000 in
set_option maxRecDepth 100000 in
theorem Fr.tsum_c (g : Nat) (s : ByteArray) (hs : s.size ≤ 140737488355328) (w : World) (hT : Fr.Tab w g) :
 Calls Tryd.prog 49 #[.pointer (some ⟨g, 0, none⟩), .string s] w fun e w' => e = .returned (.int .u32 ((Fr.sum s.data.toList : Nat) : Int)) ∧ w' = w := by
 have HS := Lib.hid hs
 have HST : Hid (∀ k (h : k < s.size), Fr.reg Fr.ones (s.data.toList.take (k + 1)) = Fr.Tn 8 (Fr.reg Fr.ones (s.data.toList.take k) ^^^ (s[k]).toNat)) := Lib.hid fun k h => Fr.reg_step h _
 have HLT : Hid (∀ l, Fr.reg Fr.ones l < 4294967296) := Lib.hid fun l => Fr.reg_lt l Fr.ones (by decide)
 have HC : Hid (∀ X : Nat, X < 4294967296 → Calls Tryd.prog 69 #[.pointer (some ⟨g, 0, none⟩), .int .u32 (X : Int)] w fun e w' => e = .returned (.int .u32 ((Fr.Tn 4 X : Nat) : Int)) ∧ w' = w) := Lib.hid fun X hX => Fr.half_c g X hX w hT
 clear hs hT
 go_enter Tryd.func49, Tryd.ntmps49
 go_wp2
 go_loop [5, 6, 9] (fun r x i => ∃ k : Nat, k ≤ s.size ∧ i = .int .i64 k ∧ r = .int .u32 (Fr.reg Fr.ones (s.data.toList.take k) : Nat)) (fun _ _ i => s.size - (intOf i).toNat)
 case atStart => exact ⟨0, by omega, rfl, rfl⟩
 case round =>
  obtain ⟨k, hk, rfl, rfl⟩ := hrel
  have hk0 : (0 : Int) ≤ (k : Int) := by omega
  have hr := HLT.out (s.data.toList.take k)
  by_cases hl : k < s.size
  ·have hki : (k : Int) < (s.size : Int) := by omega
   have hks : (k : Int) < 9223372036854775807 := by have := HS.out; omega
   have HN := Lib.hid (HST.out k hl)
   have hb := (s[k]).toNat_lt
   generalize Fr.reg Fr.ones (s.data.toList.take k) = R at hr HN ⊢
   generalize hbb : s[k] = b at hb HN
   obtain ⟨X, hX⟩ : ∃ X, X = R ^^^ b.toNat := ⟨_, rfl⟩
   have hx : bits .xor .u32 (R : Int) (b.toNat : Int) = (X : Int) := by rw [hX]; exact u32_xor_nat R b.toNat hr (by omega)
   have hXl : X < 4294967296 := by rw [hX]; exact Nat.xor_lt_two_pow (n := 32) hr (by omega)
   rw [← hX, Fr.Tn8] at HN
   have c1 := HC.out X hXl
   have hX1l : Fr.Tn 4 X < 4294967296 := Fr.Tn_lt hXl
   generalize Fr.Tn 4 X = X1 at c1 hX1l HN
   have c2 := HC.out X1 hX1l
   generalize Fr.Tn 4 X1 = X2 at c2 HN
   clear hX
   go_wp2_with fail
   with_reducible refine c1.mono ?_
   rintro e w1 ⟨rfl, h1⟩
   subst w1
   clear c1
   go_wp2_with fail
   with_reducible refine c2.mono ?_
   rintro e w1 ⟨rfl, h1⟩
   subst w1
   clear c2
   go_wp2
   go_round
   case rel => exact ⟨k + 1, by omega, by simp, by rw [HN.out]⟩
   case measure => simp [intOf]; omega
  ·obtain rfl : k = s.size := by omega
   have hki : ¬ (s.size : Int) < (s.size : Int) := by omega
   have hta : s.data.toList.take s.size = s.data.toList := List.take_of_length_le (by rw [Ty.length_data]; exact Nat.le_refl _)
   have HSM : Hid (Fr.sum s.data.toList = Fr.reg Fr.ones (s.data.toList.take s.size) ^^^ 4294967295) := Lib.hid (by rw [hta]; rfl)
   generalize Fr.reg Fr.ones (s.data.toList.take s.size) = R at hr HSM ⊢
   have hx : bits .xor .u32 IntKind.u32.max (R : Int) = ((4294967295 ^^^ R : Nat) : Int) := u32_xor_nat 4294967295 R (by decide) hr
   go_wp2
   go_ret
   exact ⟨by rw [HSM.out, Nat.xor_comm]; rfl, rfl⟩
set_option maxHeartbeats 1000000 in
set_option maxRecDepth 100000 in
theorem Fr.four_c (n : Nat) (hn : n < 4294967296) (w : World) :
 Calls Tryd.prog 44 #[.int .u32 (n : Int)] w fun e w' => e = .returned (.string (Ty.S (Fr.four n))) ∧ Below w.heap.size w w' := by
 have hcv := (Fr.four_buf n hn w).str
 go_enter Tryd.func44, Tryd.ntmps44
 go_wp2
 go_ret
 exact ⟨rfl, (Below.refl _ _).alloc (Nat.le_refl _) _⟩
theorem Fr.or_add {a b k : Nat} (ha : a < 2 ^ k) : a ||| b * 2 ^ k = a + b * 2 ^ k := by
 rw [Nat.or_comm, ← Nat.shiftLeft_eq, Nat.add_comm, Nat.shiftLeft_add_eq_or_of_lt ha]
set_option maxHeartbeats 2000000 in
set_option maxRecDepth 100000 in
theorem Fr.numberOf_c (s : ByteArray) (h : 4 ≤ s.size) (w : World) :
 Calls Tryd.prog 48 #[.string s] w fun e w' => e = .returned (.int .u32 ((Fr.val (s.data.toList.take 4) : Nat) : Int)) ∧ ∃ n, w' = w.drewN n := by
 have hv := Fr.val4 h
 have h0 := (s[0]).toNat_lt
 have h1 := (s[1]).toNat_lt
 have h2 := (s[2]).toNat_lt
 have h3 := (s[3]).toNat_lt
 have z0 : (0 : Int) < (s.size : Int) := by omega
 have z1 : (1 : Int) < (s.size : Int) := by omega
 have z2 : (2 : Int) < (s.size : Int) := by omega
 have z3 : (3 : Int) < (s.size : Int) := by omega
 have n0 : 0 < s.size := by omega
 have n1 : 1 < s.size := by omega
 have n2 : 2 < s.size := by omega
 have n3 : 3 < s.size := by omega
 have o1 : bits .or .u32 ((s[0]).toNat : Int) (((s[1]).toNat : Int) * 256) = (((s[0]).toNat + (s[1]).toNat * 256 : Nat) : Int) := by
  have := u32_or_nat (s[0]).toNat ((s[1]).toNat * 256) (by omega) (by omega)
  rw [Fr.or_add (k := 8) (by omega)] at this
  exact this
 have o2 : bits .or .u32 (((s[0]).toNat + (s[1]).toNat * 256 : Nat) : Int) (((s[2]).toNat : Int) * 65536) = (((s[0]).toNat + (s[1]).toNat * 256 + (s[2]).toNat * 65536 : Nat) : Int) := by
  have := u32_or_nat ((s[0]).toNat + (s[1]).toNat * 256) ((s[2]).toNat * 65536) (by omega) (by omega)
  rw [Fr.or_add (k := 16) (by omega)] at this
  exact this
 have o3 : bits .or .u32 (((s[0]).toNat + (s[1]).toNat * 256 + (s[2]).toNat * 65536 : Nat) : Int) (((s[3]).toNat : Int) * 16777216) = ((Fr.val (s.data.toList.take 4) : Nat) : Int) := by
  have := u32_or_nat ((s[0]).toNat + (s[1]).toNat * 256 + (s[2]).toNat * 65536) ((s[3]).toNat * 16777216) (by omega) (by omega)
  rw [Fr.or_add (k := 24) (by omega), ← hv] at this
  exact this
 generalize Fr.val (s.data.toList.take 4) = V at o3 ⊢
 generalize (s[0]).toNat + (s[1]).toNat * 256 + (s[2]).toNat * 65536 = V2 at o2 o3
 generalize (s[0]).toNat + (s[1]).toNat * 256 = V1 at o1 o2
 clear hv
 go_enter Tryd.func48, Tryd.ntmps48
 go_wp2_with fail
 go_quiet (fail)
 go_wp2
 go_ret
 exact ⟨rfl, _, rfl⟩
end
section
open Go.RowKit
def Fr.fst (l : List UInt8) : List UInt8 × Nat :=
 if l.length < 4 then ([], 2) else if 1048576 < Fr.val (l.take 4) then ([], 8) else if l.length < Fr.val (l.take 4) + 8 then ([], 2)
 else if Fr.val ((l.drop (4 + Fr.val (l.take 4))).take 4) ≠ Fr.sum ((l.drop 4).take (Fr.val (l.take 4))) then ([], 8) else ((l.drop 4).take (Fr.val (l.take 4)), 0)
theorem Fr.Mid.fst {l : List UInt8} {a : Nat} {L : List Fr.Str} (h : Fr.Mid l a L) :
 ((Fr.fst (l.drop a)).2 = 2 ∧ Fr.scan l = (0, L, a)) ∨ ((Fr.fst (l.drop a)).2 = 8 ∧ Fr.scan l = (8, [], 0)) ∨
 ((Fr.fst (l.drop a)).2 = 0 ∧ (Fr.fst (l.drop a)).1.length ≤ 1048576 ∧ a + ((Fr.fst (l.drop a)).1.length + 8) ≤ l.length ∧ Fr.Mid l (a + ((Fr.fst (l.drop a)).1.length + 8)) (L ++ [(Fr.fst (l.drop a)).1])) := by
 by_cases h4 : (l.drop a).length < 4
 ·have e : Fr.fst (l.drop a) = ([], 2) := if_pos h4
  rw [e]
  exact .inl ⟨rfl, h.short h4⟩
 ·by_cases hb : 1048576 < Fr.val ((l.drop a).take 4)
  ·have e : Fr.fst (l.drop a) = ([], 8) := (if_neg h4).trans (if_pos hb)
   rw [e]
   exact .inr (.inl ⟨rfl, h.big h4 hb⟩)
  ·by_cases ht : (l.drop a).length < Fr.val ((l.drop a).take 4) + 8
   ·have e : Fr.fst (l.drop a) = ([], 2) := (if_neg h4).trans ((if_neg hb).trans (if_pos ht))
    rw [e]
    exact .inl ⟨rfl, h.torn h4 hb ht⟩
   ·by_cases hs : Fr.val (((l.drop a).drop (4 + Fr.val ((l.drop a).take 4))).take 4) = Fr.sum (((l.drop a).drop 4).take (Fr.val ((l.drop a).take 4)))
    ·have e : Fr.fst (l.drop a) = (((l.drop a).drop 4).take (Fr.val ((l.drop a).take 4)), 0) := (if_neg h4).trans ((if_neg hb).trans ((if_neg ht).trans (if_neg (fun h => h hs))))
     have hlen : (l.drop a).length = l.length - a := List.length_drop
     have hk : (((l.drop a).drop 4).take (Fr.val ((l.drop a).take 4))).length = Fr.val ((l.drop a).take 4) := by
      rw [List.length_take, List.length_drop]; omega
     have hn := h.next h4 hb ht hs
     have := h.1
     rw [e]
     refine .inr (.inr ⟨rfl, ?_⟩)
     rw [show (((l.drop a).drop 4).take (Fr.val ((l.drop a).take 4)), (0 : Nat)).1 = ((l.drop a).drop 4).take (Fr.val ((l.drop a).take 4)) from rfl, hk]
     exact ⟨by omega, by omega, hn⟩
    ·have e : Fr.fst (l.drop a) = ([], 8) := (if_neg h4).trans ((if_neg hb).trans ((if_neg ht).trans (if_pos hs)))
     rw [e]
     exact .inr (.inl ⟨rfl, h.wrong h4 hb ht hs⟩)
set_option maxHeartbeats 2000000 in
set_option maxRecDepth 100000 in
theorem Fr.first_c (g : Nat) (s : ByteArray) (hs : s.size ≤ 140737488355328) (w : World) (hT : Fr.Tab w g) :
 Calls Tryd.prog 25 #[.pointer (some ⟨g, 0, none⟩), .string s] w fun e w' => e = .returned (.tuple #[.string (Ty.S (Fr.fst s.data.toList).1), .int .i64 (((Fr.fst s.data.toList).2 : Nat) : Int)]) ∧ ∃ n, w' = w.drewN n := by
 obtain ⟨l, hl⟩ : ∃ l, l = s.data.toList := ⟨_, rfl⟩
 have hll : l.length = s.size := by rw [hl, Ty.length_data]
 rw [← hl]
 have HL := Lib.hid hl
 obtain ⟨R, hR⟩ : ∃ R, R = Fr.fst l := ⟨_, rfl⟩
 rw [← hR]
 have HRR := Lib.hid hR
 have HT := Lib.hid hT
 clear hR hT
 by_cases h4 : s.size < 4
 ·have h4i : (s.size : Int) < 4 := by omega
  have HE : Hid (R = ([], 2)) := Lib.hid (HRR.out.trans (if_pos (by omega)))
  clear hl hll h4
  go_enter Tryd.func25, Tryd.ntmps25
  go_wp2
  go_ret2
  exact ⟨by rw [HE.out]; rfl, 0, rfl⟩
 ·have h4i : ¬ (s.size : Int) < 4 := by omega
  have cn := Fr.numberOf_c s (by omega) w
  rw [← hl] at cn
  have hN32 : Fr.val (l.take 4) < 4294967296 := by
   have := Fr.val_lt (l.take 4)
   rw [List.length_take, Nat.min_eq_left (by omega)] at this
   exact this
  have FB : Hid (1048576 < Fr.val (l.take 4) → R = ([], 8)) := Lib.hid fun h => HRR.out.trans ((if_neg (by omega)).trans (if_pos h))
  have FT : Hid (¬ 1048576 < Fr.val (l.take 4) → s.size < Fr.val (l.take 4) + 8 → R = ([], 2)) := Lib.hid fun h h2 => HRR.out.trans ((if_neg (by omega)).trans ((if_neg h).trans (if_pos (by omega))))
  have FW : Hid (¬ 1048576 < Fr.val (l.take 4) → ¬ s.size < Fr.val (l.take 4) + 8 → Fr.val ((l.drop (4 + Fr.val (l.take 4))).take 4) ≠ Fr.sum ((l.drop 4).take (Fr.val (l.take 4))) → R = ([], 8)) := Lib.hid fun h h2 h3 => HRR.out.trans ((if_neg (by omega)).trans ((if_neg h).trans ((if_neg (by omega)).trans (if_pos h3))))
  have FN : Hid (¬ 1048576 < Fr.val (l.take 4) → ¬ s.size < Fr.val (l.take 4) + 8 → Fr.val ((l.drop (4 + Fr.val (l.take 4))).take 4) = Fr.sum ((l.drop 4).take (Fr.val (l.take 4))) → R = ((l.drop 4).take (Fr.val (l.take 4)), 0)) := Lib.hid fun h h2 h3 => HRR.out.trans ((if_neg (by omega)).trans ((if_neg h).trans ((if_neg (by omega)).trans (if_neg (fun hh => hh h3)))))
  generalize Fr.val (l.take 4) = N at cn hN32 FB FT FW FN
  clear hl h4
  go_enter Tryd.func25, Tryd.ntmps25
  go_wp2_with fail
  with_reducible refine cn.mono ?_
  rintro e w1 ⟨rfl, n1, hw1⟩
  have HT1 : Hid (Fr.Tab w1 g) := Lib.hid (Fr.Tab.kept HT.out (by rw [hw1]; exact Bt.drewN_below w n1))
  have HW1 := Lib.hid hw1
  clear hw1 cn HT
  by_cases hb : 1048576 < N
  ·have hbi : (1048576 : Int) < (N : Int) := by omega
   have HE := Lib.hid (FB.out hb)
   clear hb FT FW FN hll
   go_wp2
   go_ret2
   exact ⟨by rw [HE.out]; rfl, n1, HW1.out⟩
  ·have hbi : ¬ (1048576 : Int) < (N : Int) := by omega
   by_cases ht : s.size < N + 8
   ·have hti : (s.size : Int) < 4 + (N : Int) + 4 := by omega
    have HE := Lib.hid (FT.out hb (by omega))
    clear hb ht FW FN FB hll
    go_wp2
    go_ret2
    exact ⟨by rw [HE.out]; rfl, n1, HW1.out⟩
   ·have hti : ¬ (s.size : Int) < 4 + (N : Int) + 4 := by omega
    have hT : s.extract 4 (4 + N) = Ty.S ((l.drop 4).take N) := by rw [Fr.ext_at, HL.out, Nat.add_sub_cancel_left]
    have hY : s.extract (4 + N) s.size = Ty.S (l.drop (4 + N)) := by
     rw [Fr.ext_at, HL.out, List.take_of_length_le (by rw [List.length_drop, Ty.length_data]; omega)]
    have hTs : (Ty.S ((l.drop 4).take N)).size ≤ 1048576 := by rw [Ty.size_S, List.length_take]; omega
    have hYs : 4 ≤ (Ty.S (l.drop (4 + N))).size := by rw [Ty.size_S, List.length_drop]; omega
    have C1 : Hid (∀ m, Calls Tryd.prog 49 #[.pointer (some ⟨g, 0, none⟩), .string (Ty.S ((l.drop 4).take N))] (w1.drewN m) fun e w' => e = .returned (.int .u32 ((Fr.sum ((l.drop 4).take N) : Nat) : Int)) ∧ w' = w1.drewN m) := Lib.hid fun m => by
     have := Fr.tsum_c g (Ty.S ((l.drop 4).take N)) (by omega) (w1.drewN m) (Fr.Tab.kept HT1.out (Bt.drewN_below w1 m))
     rwa [Ty.data_S] at this
    have C2 : Hid (∀ m, Calls Tryd.prog 48 #[.string (Ty.S (l.drop (4 + N)))] (w1.drewN m) fun e w' => e = .returned (.int .u32 ((Fr.val ((l.drop (4 + N)).take 4) : Nat) : Int)) ∧ ∃ n, w' = (w1.drewN m).drewN n) := Lib.hid fun m => by
     have := Fr.numberOf_c (Ty.S (l.drop (4 + N))) hYs (w1.drewN m)
     rwa [Ty.data_S] at this
    have FW := Lib.hid (FW.out hb ht)
    have FN := Lib.hid (FN.out hb ht)
    generalize Fr.val ((l.drop (4 + N)).take 4) = V at C2 FW FN
    generalize Fr.sum ((l.drop 4).take N) = M at C1 FW FN
    generalize (l.drop 4).take N = K at hT hTs C1 FN
    generalize Ty.S (l.drop (4 + N)) = Y at hY hYs C2
    obtain ⟨T, hTT⟩ : ∃ T, T = Ty.S K := ⟨_, rfl⟩
    rw [← hTT] at hT hTs C1
    have HTT := Lib.hid hTT
    have t2 : (4 + (N : Int)).toNat = 4 + N := by omega
    have hN2 : N + 8 ≤ s.size := by omega
    have hN2i : (4 + (N : Int)) ≤ (s.size : Int) := by omega
    have hN4i : (4 : Int) ≤ 4 + (N : Int) := by omega
    clear hTT hb ht hll FB FT
    go_wp2_with fail
    go_quiet (first | (go_at_call 49; exact Calls.quiet_of_same (C1.out _)) | (go_at_call 48; exact Calls.quiet_of (C2.out _)))
    by_cases hv : V = M
    ·have hvi : ((M : Nat) : Int) = ((V : Nat) : Int) := by rw [hv]
     have HE := Lib.hid (FN.out hv)
     clear FW FN hv
     go_wp2
     go_ret2
     refine ⟨by rw [HE.out, HTT.out]; rfl, n1 + nq, ?_⟩
     rw [HW1.out]
     exact World.drewN_drewN _ _ _
    ·have hvi : ¬ ((M : Nat) : Int) = ((V : Nat) : Int) := by omega
     have HE := Lib.hid (FW.out hv)
     clear FW FN hv
     go_wp2
     go_ret2
     refine ⟨by rw [HE.out]; rfl, n1 + nq, ?_⟩
     rw [HW1.out]
     exact World.drewN_drewN _ _ _
end
section
open Go.RowKit
def Fr.W (w : World) : Prop := w = w
theorem Fr.W.below {w w' : World} (_ : Fr.W w) (_ : Below w.heap.size w w') : Fr.W w' := rfl
set_option maxHeartbeats 1000000 in
set_option maxRecDepth 100000 in
theorem Fr.sum_c (s : ByteArray) (hs : s.size ≤ 140737488355328) (w : World) (_ : Fr.W w) :
 Calls Tryd.prog 45 #[.string s] w fun e w' => e = .returned (.int .u32 ((Fr.sum s.data.toList : Nat) : Int)) ∧ Below w.heap.size w w' := by
 have c1 := Fr.steps_c w
 have C2 : Hid (∀ g wz, Fr.Tab wz g → Calls Tryd.prog 49 #[.pointer (some ⟨g, 0, none⟩), .string s] wz fun e w' => e = .returned (.int .u32 ((Fr.sum s.data.toList : Nat) : Int)) ∧ w' = wz) := Lib.hid fun g wz h => Fr.tsum_c g s hs wz h
 generalize Fr.sum s.data.toList = M at C2 ⊢
 clear hs
 go_enter Tryd.func45, Tryd.ntmps45
 go_wp2_with fail
 with_reducible refine c1.mono ?_
 rintro e w1 ⟨g, rfl, hT, g1⟩
 have c2 := C2.out g w1 hT
 have HB := Lib.hid g1
 clear c1 C2 hT g1
 go_wp2_with fail
 with_reducible refine c2.mono ?_
 rintro e w2 ⟨rfl, h2⟩
 subst w2
 clear c2
 go_wp2
 go_ret
 exact ⟨rfl, HB.out⟩
set_option maxHeartbeats 2000000 in
set_option maxRecDepth 100000 in
theorem Fr.write_c (s : ByteArray) (hs : s.size ≤ 140737488355328) (w : World) (_ : Fr.W w) :
 Calls Tryd.prog 21 #[.string s] w fun e w' => e = .returned (.string (Ty.S (Fr.frm s.data.toList))) ∧ Below w.heap.size w w' := by
 have hN : s.size % 4294967296 < 4294967296 := Nat.mod_lt _ (by decide)
 have hww : IntKind.u32.wrap (s.size : Int) = ((s.size % 4294967296 : Nat) : Int) := by rw [IntKind.wrap_u32]; omega
 have c1 := fun wz => Fr.four_c (s.size % 4294967296) hN wz
 have c2 := fun wz => Fr.sum_c s hs wz (by rfl)
 have c3 := fun wz => Fr.four_c (Fr.sum s.data.toList) (Fr.sum_lt _) wz
 have HF : Hid (Ty.S (Fr.frm s.data.toList) = (Ty.S (Fr.four (s.size % 4294967296)) ++ s) ++ Ty.S (Fr.four (Fr.sum s.data.toList))) := Lib.hid (by
  unfold Fr.frm
  rw [Fr.four_mod, Ty.length_data]
  conv => rhs; lhs; rhs; rw [← Ty.S_data s]
  rw [Fr.S_add, Fr.S_add, List.append_assoc])
 have e1 : (Ty.S (Fr.four (s.size % 4294967296))).size = 4 := rfl
 have e3 : (Ty.S (Fr.four (Fr.sum s.data.toList))).size = 4 := rfl
 obtain ⟨A, hA⟩ : ∃ A, A = Ty.S (Fr.four (s.size % 4294967296)) := ⟨_, rfl⟩
 obtain ⟨B, hB⟩ : ∃ B, B = Ty.S (Fr.four (Fr.sum s.data.toList)) := ⟨_, rfl⟩
 rw [← hA] at c1 HF e1
 rw [← hB] at c3 HF e3
 generalize Fr.sum s.data.toList = M at c2 c3
 generalize s.size % 4294967296 = N at c1 hww
 have n1 : ¬ 9223372036854775807 < A.size + s.size := by omega
 have n2 : ¬ 9223372036854775807 < A.size + s.size + B.size := by omega
 clear hA hB e1 e3 hN
 go_enter Tryd.func21, Tryd.ntmps21
 go_wp2_with fail
 with_reducible refine (c1 _).mono ?_
 rintro e w1 ⟨rfl, g1⟩
 have HB1 := Lib.hid g1
 clear g1 c1
 go_wp2_with fail
 with_reducible refine (c2 _).mono ?_
 rintro e w2 ⟨rfl, g2⟩
 have HB2 := Lib.hid (HB1.out.trans (g2.mono HB1.out.size))
 clear c2 g2 HB1
 go_wp2_with fail
 with_reducible refine (c3 _).mono ?_
 rintro e w3 ⟨rfl, g3⟩
 have HB3 := Lib.hid (HB2.out.trans (g3.mono HB2.out.size))
 clear g3 c3
 go_wp2
 go_ret
 exact ⟨by rw [HF.out]; rfl, HB3.out⟩
set_option maxHeartbeats 4000000 in
set_option maxRecDepth 100000 in
theorem Fr.scan_c (s : ByteArray) (hs : s.size ≤ 70368744177664) (w : World) (_ : Fr.W w) :
 Calls Tryd.prog 12 #[.string s] w (Fr.Got w (Fr.scan s.data.toList)) := by
 obtain ⟨l, hl⟩ : ∃ l, l = s.data.toList := ⟨_, rfl⟩
 have hll : l.length = s.size := by rw [hl, Ty.length_data]
 rw [← hl]
 have HL := Lib.hid hl
 have HLL := Lib.hid hll
 have HM0 := Lib.hid (Fr.Mid.start l)
 obtain ⟨R, hR⟩ : ∃ R, R = Fr.scan l := ⟨_, rfl⟩
 rw [← hR]
 have HRR := Lib.hid hR
 have c1 := Fr.steps_c w
 have CF : Hid (∀ g (t : ByteArray) wz, t.size ≤ 140737488355328 → Fr.Tab wz g → Calls Tryd.prog 25 #[.pointer (some ⟨g, 0, none⟩), .string t] wz fun e w' => e = .returned (.tuple #[.string (Ty.S (Fr.fst t.data.toList).1), .int .i64 (((Fr.fst t.data.toList).2 : Nat) : Int)]) ∧ ∃ n, w' = wz.drewN n) := Lib.hid fun g t wz h h2 => Fr.first_c g t h wz h2
 clear hR hl hll
 go_enter Tryd.func12, Tryd.ntmps12
 go_wp2_with fail
 with_reducible refine c1.mono ?_
 rintro e w0 ⟨g, rfl, hT0, g0⟩
 have HT0 := Lib.hid hT0
 have HB0 := Lib.hid g0
 clear c1 hT0 g0
 go_wp2
 go_loopw [5, 6, 8, 9] (fun ov av _ _ wr => ∃ (a : Nat) (L : List Fr.Str), av = .int .i64 a ∧ Fr.Mid l a L ∧ Tx.Own w0.heap.size wr ov L ∧ Below w0.heap.size w0 wr) (fun _ av _ _ _ => s.size - (intOf av).toNat)
 case atStart => exact ⟨0, [], rfl, HM0.out, Tx.Own.nil _ _, Below.refl _ _⟩
 case round =>
  obtain ⟨a, L, rfl, hM, hO, hb⟩ := hrel
  have hT := HT0.out.kept hb
  have has : a ≤ s.size := by have := hM.1; rw [HLL.out] at this; exact this
  have hL8 : 8 * L.length ≤ a := hM.2.1
  have hF := hM.fst
  have HO := Lib.hid hO
  have HB := Lib.hid hb
  have hws := hb.size
  have ha0 : (0 : Int) ≤ (a : Int) := by omega
  have hai : (a : Int) ≤ (s.size : Int) := by omega
  have hx : s.extract a s.size = Ty.S (l.drop a) := by
   rw [Fr.ext_at, HL.out, List.take_of_length_le (by rw [List.length_drop, Ty.length_data]; omega)]
  have cf := CF.out g (Ty.S (l.drop a)) wr (by rw [Ty.size_S, List.length_drop, HLL.out]; omega) hT
  rw [Ty.data_S] at cf
  rw [HLL.out] at hF
  generalize Ty.S (l.drop a) = X at hx cf
  obtain ⟨F, hFF⟩ : ∃ F, F = Fr.fst (l.drop a) := ⟨_, rfl⟩
  rw [← hFF] at cf hF
  obtain ⟨K, E⟩ := F
  simp only at cf hF
  have HF := Lib.hid hF
  obtain ⟨T, hTT⟩ : ∃ T, T = Ty.S K := ⟨_, rfl⟩
  rw [← hTT] at cf
  have HTT := Lib.hid hTT
  have hTs : T.size = K.length := by rw [hTT, Ty.size_S]
  clear hM hO hb HM0 hT HT0 hF hFF hTT CF
  go_wp2_with fail
  with_reducible refine cf.mono ?_
  rintro e w1 ⟨rfl, n1, hw1⟩
  have HB1 : Hid (Below w0.heap.size w0 w1) := Lib.hid (by rw [hw1]; exact HB.out.trans ((Bt.drewN_below _ _).mono hws))
  have HO1 : Hid (Tx.Own w0.heap.size w1 u5 L) := Lib.hid (by rw [hw1]; exact Bt.Buf.kept HO.out (Bt.drewN_below _ _))
  clear hw1 cf HO HB
  rcases HF.out with ⟨rfl, hS⟩ | ⟨rfl, hS⟩ | ⟨rfl, hK, hKs, hM⟩
  ·have HE := Lib.hid (HRR.out.trans hS)
   have HAT := Lib.hid (Tx.Own.at HO1.out)
   clear hS HF HTT hTs
   go_wp2
   go_ret3
   exact Fr.Got.good HE.out HAT.out (HB0.out.trans (HB1.out.mono HB0.out.size))
  ·have HE := Lib.hid (HRR.out.trans hS)
   clear hS HF HTT hTs
   go_wp2
   go_ret3
   exact Fr.Got.bad HE.out (HB0.out.trans (HB1.out.mono HB0.out.size))
  ·have HM := Lib.hid hM
   have cc := Tx.clone_c T w1 (by omega)
   have hLL : (L.length + 1) * 16 ≤ 140737488355328 := by omega
   clear hM HF
   go_wp2_with fail
   with_reducible refine cc.mono ?_
   rintro e w2 ⟨rfl, g2⟩
   have HB2 : Hid (Below w0.heap.size w0 w2) := Lib.hid (HB1.out.trans (g2.mono HB1.out.size))
   have hO2 : Tx.Own w0.heap.size w2 u5 L := Bt.Buf.kept HO1.out g2
   have hws2 := HB2.out.size
   clear cc g2 HB1 HO1
   go_wp2_with (at_builtin; refine Bt.wpList_append_one 9 45 (.string ⟨#[]⟩) 16 Tryd.underlying45 Tx.infoS rfl (hO2.pre K) hws2 hLL (by omega) (.tmp 23) (.tmp 26) _ rfl rfl rfl rfl rfl ?_; intro v3 w3 h3 g3)
   have HO3 := Lib.hid (Tx.Own.post (h3 (by rw [← Tx.sv_snoc, ← HTT.out])))
   have HB3 := Lib.hid (Tx.grew_below HB2.out hO2 g3)
   clear h3 g3 hO2 hLL
   go_wp2
   go_roundw
   case rel => exact ⟨a + (K.length + 8), L ++ [K], by congr 1, HM.out, HO3.out, HB3.out⟩
   case measure => simp [intOf]; omega
end
end Go.Proofs.YteaglaijkafphaaDoor
