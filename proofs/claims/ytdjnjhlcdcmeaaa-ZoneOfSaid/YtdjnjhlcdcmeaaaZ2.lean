/-
  A zone in a block of its own: its cells, stores into it. No program beyond the type's number.
-/
import Derived.Test.YtdjnjhlcdcmeaaaZ1
import Derived.Test.YtdjnjhlcdcmeaaaK4
import Derived.Deep.OwnRows
import Derived.Laws.Rows
import Derived.Laws.ResultCell
namespace Go.Proofs.Ytdjnjhlcdcmeaaa
open Go.RowKit
/-- A zone as cells. -/
abbrev Zn.cs (z : Zn.Zo) : Array Value := #[.bool z.nulls, .bool z.values, .bool z.lo.null, .int .i64 z.lo.n, .string z.lo.s, .bool z.hi.null, .int .i64 z.hi.n, .string z.hi.s]
/-- The block holds the zone, and nothing else. -/
def Zn.Blk (w : World) (q : Nat) (z : Zn.Zo) : Prop := w.heap[q]? = some (.cells (Zn.cs z) 30 (0, 0))
theorem Zn.Blk.lt {w : World} {q : Nat} {z : Zn.Zo} (h : Zn.Blk w q z) : q < w.heap.size := lt_of_block h
theorem Zn.Blk.new (w : World) (z : Zn.Zo) : Zn.Blk (w.alloc (.cells (Zn.cs z) 30)) w.heap.size z := heap_alloc_new w _
theorem Zn.Blk.kept {w w' : World} {q : Nat} {z : Zn.Zo} (h : Zn.Blk w q z) (g : Below w.heap.size w w') : Zn.Blk w' q z := (g.block q h.lt).trans h
theorem Zn.Blk.alloc {w : World} {q : Nat} {z : Zn.Zo} (h : Zn.Blk w q z) (o : Obj) : Zn.Blk (w.alloc o) q z := h.kept ((Below.refl _ w).alloc (Nat.le_refl _) o)
theorem Zn.Blk.drew {w : World} {q : Nat} {z : Zn.Zo} (h : Zn.Blk w q z) : Zn.Blk w.drew q z := h
theorem Zn.Blk.other {w : World} {q g : Nat} {z : Zn.Zo} (h : Zn.Blk w q z) (hne : q ≠ g) (i : Nat) (v : Value) : Zn.Blk (w.setCell ⟨g, i, none⟩ v) q z := (heap_setCell_other w ⟨g, i, none⟩ q v hne).trans h
theorem Zn.Blk.cells {w : World} {q : Nat} {z : Zn.Zo} (h : Zn.Blk w q z) :
    w.cell? ⟨q, 0, none⟩ = some (.bool z.nulls) ∧ w.cell? ⟨q, 1, none⟩ = some (.bool z.values) ∧ w.cell? ⟨q, 2, none⟩ = some (.bool z.lo.null) ∧ w.cell? ⟨q, 3, none⟩ = some (.int .i64 z.lo.n) ∧ w.cell? ⟨q, 4, none⟩ = some (.string z.lo.s)
    ∧ w.cell? ⟨q, 5, none⟩ = some (.bool z.hi.null) ∧ w.cell? ⟨q, 6, none⟩ = some (.int .i64 z.hi.n) ∧ w.cell? ⟨q, 7, none⟩ = some (.string z.hi.s) := by
  unfold Zn.Blk at h
  refine ⟨?_, ?_, ?_, ?_, ?_, ?_, ?_, ?_⟩ <;> simp [World.cell?, h]
theorem Zn.Blk.frozen {w : World} {q : Nat} {z : Zn.Zo} (h : Zn.Blk w q z) (i : Nat) : w.frozen? ⟨q, i, none⟩ = false := by
  unfold Zn.Blk at h
  simp [World.frozen?, h]
theorem Zn.Blk.frozens {w : World} {q : Nat} {z : Zn.Zo} (h : Zn.Blk w q z) : w.frozen? ⟨q, 0, none⟩ = false ∧ w.frozen? ⟨q, 1, none⟩ = false ∧ w.frozen? ⟨q, 2, none⟩ = false ∧ w.frozen? ⟨q, 3, none⟩ = false ∧ w.frozen? ⟨q, 4, none⟩ = false
    ∧ w.frozen? ⟨q, 5, none⟩ = false ∧ w.frozen? ⟨q, 6, none⟩ = false ∧ w.frozen? ⟨q, 7, none⟩ = false :=
  ⟨h.frozen 0, h.frozen 1, h.frozen 2, h.frozen 3, h.frozen 4, h.frozen 5, h.frozen 6, h.frozen 7⟩
theorem Zn.Blk.set0 {w : World} {q : Nat} {z : Zn.Zo} (h : Zn.Blk w q z) (b : Bool) : Zn.Blk (w.setCell ⟨q, 0, none⟩ (.bool b)) q ⟨b, z.values, z.lo, z.hi⟩ :=
  heap_setCell_same w q 0 _ _ _ h
theorem Zn.Blk.set1 {w : World} {q : Nat} {z : Zn.Zo} (h : Zn.Blk w q z) (b : Bool) : Zn.Blk (w.setCell ⟨q, 1, none⟩ (.bool b)) q ⟨z.nulls, b, z.lo, z.hi⟩ :=
  heap_setCell_same w q 1 _ _ _ h
theorem Zn.Blk.set4 {w : World} {q : Nat} {z : Zn.Zo} (h : Zn.Blk w q z) (s : ByteArray) : Zn.Blk (w.setCell ⟨q, 4, none⟩ (.string s)) q ⟨z.nulls, z.values, ⟨z.lo.null, z.lo.n, s⟩, z.hi⟩ :=
  heap_setCell_same w q 4 _ _ _ h
theorem Zn.Blk.set7 {w : World} {q : Nat} {z : Zn.Zo} (h : Zn.Blk w q z) (s : ByteArray) : Zn.Blk (w.setCell ⟨q, 7, none⟩ (.string s)) q ⟨z.nulls, z.values, z.lo, ⟨z.hi.null, z.hi.n, s⟩⟩ :=
  heap_setCell_same w q 7 _ _ _ h
/-- A value stored as the zone's Lo, as its Hi. -/
theorem Zn.Blk.setLo {w : World} {q : Nat} {z : Zn.Zo} (h : Zn.Blk w q z) (v : Kn.V) : Zn.Blk (((w.setCell ⟨q, 2, none⟩ (.bool v.null)).setCell ⟨q, 3, none⟩ (.int .i64 v.n)).setCell ⟨q, 4, none⟩ (.string v.s)) q ⟨z.nulls, z.values, v, z.hi⟩ :=
  heap_setCell_same _ q 4 _ _ _ (heap_setCell_same _ q 3 _ _ _ (heap_setCell_same _ q 2 _ _ _ h))
theorem Zn.Blk.setHi {w : World} {q : Nat} {z : Zn.Zo} (h : Zn.Blk w q z) (v : Kn.V) : Zn.Blk (((w.setCell ⟨q, 5, none⟩ (.bool v.null)).setCell ⟨q, 6, none⟩ (.int .i64 v.n)).setCell ⟨q, 7, none⟩ (.string v.s)) q ⟨z.nulls, z.values, z.lo, v⟩ :=
  heap_setCell_same _ q 7 _ _ _ (heap_setCell_same _ q 6 _ _ _ (heap_setCell_same _ q 5 _ _ _ h))
/-- A store into a block that is new since w. -/
theorem Zn.below_set {B : Nat} {w w' : World} {q : Nat} (g : Below B w w') (h : B ≤ q) (i : Nat) (v : Value) : Below B w (w'.setCell ⟨q, i, none⟩ v) :=
  ⟨g.os, g.tape, g.output, by have := g.size; simpa [World.setCell] using this, fun b hb => (heap_setCell_other w' ⟨q, i, none⟩ b v (by show b ≠ q; omega)).trans (g.block b hb)⟩
theorem Zn.below_set3 {B : Nat} {w w' : World} {q : Nat} (g : Below B w w') (h : B ≤ q) (i j k : Nat) (x y z : Value) : Below B w (((w'.setCell ⟨q, i, none⟩ x).setCell ⟨q, j, none⟩ y).setCell ⟨q, k, none⟩ z) :=
  Zn.below_set (Zn.below_set (Zn.below_set g h i x) h j y) h k z
/-- A whole zone stored. -/
def Zn.put (w : World) (q : Nat) (z : Zn.Zo) : World := (((((((w.setCell ⟨q, 0, none⟩ (.bool z.nulls)).setCell ⟨q, 1, none⟩ (.bool z.values)).setCell ⟨q, 2, none⟩ (.bool z.lo.null)).setCell ⟨q, 3, none⟩ (.int .i64 z.lo.n)).setCell ⟨q, 4, none⟩ (.string z.lo.s)).setCell ⟨q, 5, none⟩ (.bool z.hi.null)).setCell ⟨q, 6, none⟩ (.int .i64 z.hi.n)).setCell ⟨q, 7, none⟩ (.string z.hi.s)
theorem Zn.put_below {B : Nat} {w w' : World} {q : Nat} (g : Below B w w') (h : B ≤ q) (z : Zn.Zo) : Below B w (Zn.put w' q z) :=
  Zn.below_set (Zn.below_set (Zn.below_set (Zn.below_set (Zn.below_set (Zn.below_set (Zn.below_set (Zn.below_set g h _ _) h _ _) h _ _) h _ _) h _ _) h _ _) h _ _) h _ _
theorem Zn.Blk.put {w : World} {q : Nat} {y : Zn.Zo} (h : Zn.Blk w q y) (z : Zn.Zo) : Zn.Blk (Zn.put w q z) q z :=
  (((h.set0 z.nulls).set1 z.values).setLo z.lo).setHi z.hi
theorem Zn.Blk.at_lo {w : World} {q : Nat} {z : Zn.Zo} (h : Zn.Blk w q z) : Kn.At w q 2 z.lo := ⟨h.cells.2.2.1, h.cells.2.2.2.1, h.cells.2.2.2.2.1⟩
theorem Zn.Blk.at_hi {w : World} {q : Nat} {z : Zn.Zo} (h : Zn.Blk w q z) : Kn.At w q 5 z.hi := ⟨h.cells.2.2.2.2.2.1, h.cells.2.2.2.2.2.2.1, h.cells.2.2.2.2.2.2.2⟩
/-- A condition in a block of its own. -/
abbrev Zn.acs (a : Zn.As) : Array Value := #[.int .i64 a.op, .int .i64 a.col, .bool a.v.null, .int .i64 a.v.n, .string a.v.s]
structure Zn.ABlk (w : World) (q : Nat) (a : Zn.As) : Prop where
  c0 : w.cell? ⟨q, 0, none⟩ = some (.int .i64 a.op)
  c1 : w.cell? ⟨q, 1, none⟩ = some (.int .i64 a.col)
  c2 : w.cell? ⟨q, 2, none⟩ = some (.bool a.v.null)
  c3 : w.cell? ⟨q, 3, none⟩ = some (.int .i64 a.v.n)
  c4 : w.cell? ⟨q, 4, none⟩ = some (.string a.v.s)
theorem Zn.ABlk.lt {w : World} {q : Nat} {a : Zn.As} (h : Zn.ABlk w q a) : q < w.heap.size := World.block_lt_of_cell? w _ h.c0
theorem Zn.ABlk.kept {w w' : World} {q : Nat} {a : Zn.As} (h : Zn.ABlk w q a) (g : Below w.heap.size w w') : Zn.ABlk w' q a :=
  ⟨(g.cell (p := ⟨q, 0, none⟩) h.lt).trans h.c0, (g.cell (p := ⟨q, 1, none⟩) h.lt).trans h.c1, (g.cell (p := ⟨q, 2, none⟩) h.lt).trans h.c2, (g.cell (p := ⟨q, 3, none⟩) h.lt).trans h.c3, (g.cell (p := ⟨q, 4, none⟩) h.lt).trans h.c4⟩
theorem Zn.ABlk.new (w : World) (a : Zn.As) (t : TypeId) : Zn.ABlk (w.alloc (.cells (Zn.acs a) t)) w.heap.size a :=
  ⟨Kn.cell_new w _ t 0 _ rfl, Kn.cell_new w _ t 1 _ rfl, Kn.cell_new w _ t 2 _ rfl, Kn.cell_new w _ t 3 _ rfl, Kn.cell_new w _ t 4 _ rfl⟩
end Go.Proofs.Ytdjnjhlcdcmeaaa
