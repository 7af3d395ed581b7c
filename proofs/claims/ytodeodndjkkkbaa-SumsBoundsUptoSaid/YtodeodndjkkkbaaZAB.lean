import Derived.Test.YtodeodndjkkkbaaZAA
import Derived.Deep.OwnRows
import Derived.Laws.Rows
import Derived.Laws.ResultCell
import Derived.Test.YtodeodndjkkkbaaRows
import Derived.Test.YtodeodndjkkkbaaLay
import Derived.WalkKit
import Derived.WalkSpells
import Derived.WalkLawsBesides
import Derived.Deep.RegionWith
import Derived.Deep.RegionHeld3
import Derived.Laws.BitsLemmas
import Derived.IntWalk
import Derived.Laws.Bits64
import GoSem.Op.String
namespace Go.Proofs.Ytodeodndjkkkbaa
open Go.RowKit
abbrev Zn.cs (z : Zn.Zo) : Array Value := #[.bool z.nulls, .bool z.values, .bool z.lo.null, .int .i64 z.lo.n, .string z.lo.s, .bool z.hi.null, .int .i64 z.hi.n, .string z.hi.s]
theorem Zn.below_set {B : Nat} {w w' : World} {q : Nat} (g : Below B w w') (h : B ≤ q) (i : Nat) (v : Value) : Below B w (w'.setCell ⟨q, i, none⟩ v) :=
 ⟨g.os, g.tape, g.output, by have := g.size; simpa [World.setCell] using this, fun b hb => (heap_setCell_other w' ⟨q, i, none⟩ b v (by show b ≠ q; omega)).trans (g.block b hb)⟩
theorem Zn.below_set3 {B : Nat} {w w' : World} {q : Nat} (g : Below B w w') (h : B ≤ q) (i j k : Nat) (x y z : Value) : Below B w (((w'.setCell ⟨q, i, none⟩ x).setCell ⟨q, j, none⟩ y).setCell ⟨q, k, none⟩ z) :=
 Zn.below_set (Zn.below_set (Zn.below_set g h i x) h j y) h k z
def Zn.put (w : World) (q : Nat) (z : Zn.Zo) : World := (((((((w.setCell ⟨q, 0, none⟩ (.bool z.nulls)).setCell ⟨q, 1, none⟩ (.bool z.values)).setCell ⟨q, 2, none⟩ (.bool z.lo.null)).setCell ⟨q, 3, none⟩ (.int .i64 z.lo.n)).setCell ⟨q, 4, none⟩ (.string z.lo.s)).setCell ⟨q, 5, none⟩ (.bool z.hi.null)).setCell ⟨q, 6, none⟩ (.int .i64 z.hi.n)).setCell ⟨q, 7, none⟩ (.string z.hi.s)
abbrev Zn.acs (a : Zn.As) : Array Value := #[.int .i64 a.op, .int .i64 a.col, .bool a.v.null, .int .i64 a.v.n, .string a.v.s]
structure Zn.ABlk (w : World) (q : Nat) (a : Zn.As) : Prop where
 c0 : w.cell? ⟨q, 0, none⟩ = some (.int .i64 a.op)
 c1 : w.cell? ⟨q, 1, none⟩ = some (.int .i64 a.col)
 c2 : w.cell? ⟨q, 2, none⟩ = some (.bool a.v.null)
 c3 : w.cell? ⟨q, 3, none⟩ = some (.int .i64 a.v.n)
 c4 : w.cell? ⟨q, 4, none⟩ = some (.string a.v.s)
theorem Zn.ABlk.lt {w : World} {q : Nat} {a : Zn.As} (h : Zn.ABlk w q a) : q < w.heap.size := World.block_lt_of_cell? w _ h.c0
theorem Zn.ABlk.kept {w w' : World} {q : Nat} {a : Zn.As} (h : Zn.ABlk w q a) (g : Below w.heap.size w w') : Zn.ABlk w' q a :=
 ⟨(g.cell (p := ⟨q, 0, none⟩) h.lt).trans h.c0, (g.cell (p := ⟨q, 1, none⟩) h.lt).trans h.c1, (g.cell (p := ⟨q, 2, none⟩) h.lt).trans h.c2, (g.cell (p := ⟨q, 3, none⟩) h.lt).trans h.c3, (g.cell (p := ⟨q, 4, none⟩) h.lt).trans h.c4⟩
theorem Zn.ABlk.new (w : World) (a : Zn.As) (t : TypeId) : Zn.ABlk (w.alloc (.cells (Zn.acs a) t)) w.heap.size a :=
 ⟨Kn.cell_new w _ t 0 _ rfl, Kn.cell_new w _ t 1 _ rfl, Kn.cell_new w _ t 2 _ rfl, Kn.cell_new w _ t 3 _ rfl, Kn.cell_new w _ t 4 _ rfl⟩
end Go.Proofs.Ytodeodndjkkkbaa
namespace Go.Proofs.Ytodeodndjkkkbaa
open Go.RowKit
def Su.Blk (w : World) (q : Nat) (s : Su.S) : Prop := w.heap[q]? = some (.cells (Su.cs s) 52 (0, 0))
theorem Su.Blk.lt {w : World} {q : Nat} {s : Su.S} (h : Su.Blk w q s) : q < w.heap.size := lt_of_block h
theorem Su.Blk.new (w : World) (s : Su.S) : Su.Blk (w.alloc (.cells (Su.cs s) 52)) w.heap.size s := heap_alloc_new w _
theorem Su.Blk.kept {w w' : World} {q : Nat} {s : Su.S} (h : Su.Blk w q s) (g : Below w.heap.size w w') : Su.Blk w' q s := (g.block q h.lt).trans h
theorem Su.Blk.alloc {w : World} {q : Nat} {s : Su.S} (h : Su.Blk w q s) (o : Obj) : Su.Blk (w.alloc o) q s := h.kept ((Below.refl _ w).alloc (Nat.le_refl _) o)
theorem Su.Blk.other {w : World} {q g : Nat} {s : Su.S} (h : Su.Blk w q s) (hne : q ≠ g) (i : Nat) (v : Value) : Su.Blk (w.setCell ⟨g, i, none⟩ v) q s := (heap_setCell_other w ⟨g, i, none⟩ q v hne).trans h
theorem Su.Blk.cells {w : World} {q : Nat} {s : Su.S} (h : Su.Blk w q s) :
 w.cell? ⟨q, 0, none⟩ = some (.int .i64 s.cnt) ∧ w.cell? ⟨q, 1, none⟩ = some (.int .i64 s.sum) ∧ w.cell? ⟨q, 2, none⟩ = some (.int .i64 s.vals) ∧ w.cell? ⟨q, 3, none⟩ = some (.bool s.lo.null) ∧ w.cell? ⟨q, 4, none⟩ = some (.int .i64 s.lo.n) ∧ w.cell? ⟨q, 5, none⟩ = some (.string s.lo.s) ∧ w.cell? ⟨q, 6, none⟩ = some (.bool s.hi.null) ∧ w.cell? ⟨q, 7, none⟩ = some (.int .i64 s.hi.n) ∧ w.cell? ⟨q, 8, none⟩ = some (.string s.hi.s) := by
 unfold Su.Blk at h
 refine ⟨?_, ?_, ?_, ?_, ?_, ?_, ?_, ?_, ?_⟩ <;> simp [World.cell?, h]
theorem Su.Blk.frozen {w : World} {q : Nat} {s : Su.S} (h : Su.Blk w q s) (i : Nat) : w.frozen? ⟨q, i, none⟩ = false := by
 unfold Su.Blk at h
 simp [World.frozen?, h]
theorem Su.Blk.frozens {w : World} {q : Nat} {s : Su.S} (h : Su.Blk w q s) : w.frozen? ⟨q, 0, none⟩ = false ∧ w.frozen? ⟨q, 1, none⟩ = false ∧ w.frozen? ⟨q, 2, none⟩ = false ∧ w.frozen? ⟨q, 3, none⟩ = false ∧ w.frozen? ⟨q, 4, none⟩ = false ∧ w.frozen? ⟨q, 5, none⟩ = false ∧ w.frozen? ⟨q, 6, none⟩ = false ∧ w.frozen? ⟨q, 7, none⟩ = false ∧ w.frozen? ⟨q, 8, none⟩ = false := ⟨h.frozen 0, h.frozen 1, h.frozen 2, h.frozen 3, h.frozen 4, h.frozen 5, h.frozen 6, h.frozen 7, h.frozen 8⟩
theorem Su.Blk.set0 {w : World} {q : Nat} {s : Su.S} (h : Su.Blk w q s) (x : Int) : Su.Blk (w.setCell ⟨q, 0, none⟩ (.int .i64 x)) q ⟨x, s.sum, s.vals, s.lo, s.hi⟩ := heap_setCell_same w q 0 _ _ _ h
theorem Su.Blk.set1 {w : World} {q : Nat} {s : Su.S} (h : Su.Blk w q s) (x : Int) : Su.Blk (w.setCell ⟨q, 1, none⟩ (.int .i64 x)) q ⟨s.cnt, x, s.vals, s.lo, s.hi⟩ := heap_setCell_same w q 1 _ _ _ h
theorem Su.Blk.set2 {w : World} {q : Nat} {s : Su.S} (h : Su.Blk w q s) (x : Int) : Su.Blk (w.setCell ⟨q, 2, none⟩ (.int .i64 x)) q ⟨s.cnt, s.sum, x, s.lo, s.hi⟩ := heap_setCell_same w q 2 _ _ _ h
theorem Su.Blk.setLo {w : World} {q : Nat} {s : Su.S} (h : Su.Blk w q s) (v : Kn.V) : Su.Blk (((w.setCell ⟨q, 3, none⟩ (.bool v.null)).setCell ⟨q, 4, none⟩ (.int .i64 v.n)).setCell ⟨q, 5, none⟩ (.string v.s)) q ⟨s.cnt, s.sum, s.vals, v, s.hi⟩ :=
 heap_setCell_same _ q 5 _ _ _ (heap_setCell_same _ q 4 _ _ _ (heap_setCell_same _ q 3 _ _ _ h))
theorem Su.Blk.setHi {w : World} {q : Nat} {s : Su.S} (h : Su.Blk w q s) (v : Kn.V) : Su.Blk (((w.setCell ⟨q, 6, none⟩ (.bool v.null)).setCell ⟨q, 7, none⟩ (.int .i64 v.n)).setCell ⟨q, 8, none⟩ (.string v.s)) q ⟨s.cnt, s.sum, s.vals, s.lo, v⟩ :=
 heap_setCell_same _ q 8 _ _ _ (heap_setCell_same _ q 7 _ _ _ (heap_setCell_same _ q 6 _ _ _ h))
def Su.put (w : World) (q : Nat) (s : Su.S) : World := (((((((((w.setCell ⟨q, 0, none⟩ (.int .i64 s.cnt))).setCell ⟨q, 1, none⟩ (.int .i64 s.sum)).setCell ⟨q, 2, none⟩ (.int .i64 s.vals)).setCell ⟨q, 3, none⟩ (.bool s.lo.null)).setCell ⟨q, 4, none⟩ (.int .i64 s.lo.n)).setCell ⟨q, 5, none⟩ (.string s.lo.s)).setCell ⟨q, 6, none⟩ (.bool s.hi.null)).setCell ⟨q, 7, none⟩ (.int .i64 s.hi.n)).setCell ⟨q, 8, none⟩ (.string s.hi.s)
theorem Su.put_below {B : Nat} {w w' : World} {q : Nat} (g : Below B w w') (h : B ≤ q) (s : Su.S) : Below B w (Su.put w' q s) :=
 (Zn.below_set (Zn.below_set (Zn.below_set (Zn.below_set (Zn.below_set (Zn.below_set (Zn.below_set (Zn.below_set (Zn.below_set g h _ _) h _ _) h _ _) h _ _) h _ _) h _ _) h _ _) h _ _) h _ _)
theorem Su.Blk.put {w : World} {q : Nat} {y : Su.S} (h : Su.Blk w q y) (s : Su.S) : Su.Blk (Su.put w q s) q s :=
 ((((h.set0 s.cnt).set1 s.sum).set2 s.vals).setLo s.lo).setHi s.hi
end Go.Proofs.Ytodeodndjkkkbaa
namespace Go.Proofs.Ytodeodndjkkkbaa
open Go.RowKit Go.Shelf
set_option maxRecDepth 100000 in
theorem Tx.clone_c (s : ByteArray) (w : World) (hs : s.size ≤ 140737488355328) : Calls Try.prog 90 #[.string s] w fun e w' => e = .returned (.string s) ∧ Below w.heap.size w w' := by
 have cc := Any.stringslite_Clone Try.cloneL s w (by omega)
 go_enter Try.func90, Try.ntmps90
 go_wp2_with fail
 refine Calls.mono cc ?_
 rintro e w1 ⟨rfl, hb⟩
 go_wp2
 go_ret
 exact ⟨rfl, hb⟩
end Go.Proofs.Ytodeodndjkkkbaa
namespace Go.Proofs.Ytodeodndjkkkbaa
open Go.RowKit
structure Kn.R where
 from_ : Bool
 til : Bool
 lo : Kn.V
 hi : Kn.V
abbrev Kn.R.val (r : Kn.R) : Value := .agg #[.bool r.from_, .bool r.til, .bool r.lo.null, .int .i64 r.lo.n, .string r.lo.s, .bool r.hi.null, .int .i64 r.hi.n, .string r.hi.s]
structure Kn.RAt (w : World) (b : Nat) (r : Kn.R) : Prop where
 c0 : w.cell? ⟨b, 0, none⟩ = some (.bool r.from_)
 c1 : w.cell? ⟨b, 1, none⟩ = some (.bool r.til)
 lo : Kn.At w b 2 r.lo
 hi : Kn.At w b 5 r.hi
theorem Kn.RAt.later {w w' : World} {b : Nat} {r : Kn.R} (h : Kn.RAt w b r) (g : Below w.heap.size w w') : Kn.RAt w' b r :=
 ⟨(g.cell (p := ⟨b, 0, none⟩) h.lo.lt).trans h.c0, (g.cell (p := ⟨b, 1, none⟩) h.lo.lt).trans h.c1, h.lo.later g, h.hi.later g⟩
theorem Kn.RAt.new (w : World) (r : Kn.R) (t : TypeId) : Kn.RAt (w.alloc (.cells #[.bool r.from_, .bool r.til, .bool r.lo.null, .int .i64 r.lo.n, .string r.lo.s, .bool r.hi.null, .int .i64 r.hi.n, .string r.hi.s] t)) w.heap.size r :=
 ⟨Kn.cell_new w _ t 0 _ rfl, Kn.cell_new w _ t 1 _ rfl, ⟨Kn.cell_new w _ t 2 _ rfl, Kn.cell_new w _ t 3 _ rfl, Kn.cell_new w _ t 4 _ rfl⟩, ⟨Kn.cell_new w _ t 5 _ rfl, Kn.cell_new w _ t 6 _ rfl, Kn.cell_new w _ t 7 _ rfl⟩⟩
theorem Kn.RAt.alloc {w : World} {b : Nat} {r : Kn.R} (h : Kn.RAt w b r) (x : Obj) : Kn.RAt (w.alloc x) b r := h.later ((Below.refl _ w).alloc (Nat.le_refl _) x)
def Kn.inR (r : Kn.R) (k : Kn.V) : Bool := (!r.from_ || !decide (Kn.cmp k r.lo < 0)) && (!r.til || decide (Kn.cmp k r.hi < 0))
end Go.Proofs.Ytodeodndjkkkbaa
namespace Go.Proofs.Ytodeodndjkkkbaa
open Go.RowKit
theorem Kn.Cols.alloc {w : World} {v : Value} {l : List Kn.C} (h : Kn.Cols w v l) (x : Obj) : Kn.Cols (w.alloc x) v l := h.later ((Below.refl _ w).alloc (Nat.le_refl _) x)
theorem Kn.Vals.alloc {w : World} {v : Value} {l : List Kn.V} (h : Kn.Vals w v l) (x : Obj) : Kn.Vals (w.alloc x) v l := h.later ((Below.refl _ w).alloc (Nat.le_refl _) x)
end Go.Proofs.Ytodeodndjkkkbaa
namespace Go.Proofs.Ytodeodndjkkkbaa
open Go.RowKit
theorem Kn.drewN_below (w : World) (n : Nat) : Below w.heap.size w (w.drewN n) := Kn.below_drewN (Below.refl _ _) n
end Go.Proofs.Ytodeodndjkkkbaa
namespace Go.Proofs.Ytodeodndjkkkbaa
open Go.RowKit
theorem Zn.ops (x : Int) : x = 0 ∨ x = 4 ∨ x = 5 ∨ x = 1 ∨ x = 2 ∨ x = 3 ∨ ((x == 0) = false ∧ (x == 1) = false ∧ (x == 2) = false ∧ (x == 3) = false ∧ (x == 4) = false ∧ (x == 5) = false ∧ x ≠ 0 ∧ x ≠ 1 ∧ x ≠ 2 ∧ x ≠ 3 ∧ x ≠ 4 ∧ x ≠ 5) := by
 simp only [beq_eq_false_iff_ne]
 omega
end Go.Proofs.Ytodeodndjkkkbaa
namespace Go.Proofs.Ytodeodndjkkkbaa
open Go.RowKit
theorem Zn.results_cell {fn : Func} {p : Tmp} {ty : TypeId} (h : fn.results = #[.cell p ty]) (tmps : Array Value) (P : Program) (w : World) :
 (results fn tmps).run P w = ((asAddr (tmps.getD p undef)).run P w).andThen fun a w1 => (loadVar ty a).run P w1 := by
 simp only [results, h]
 simp [Sem.run_bind, Result.andThen]
theorem Zn.three {w : World} {q : Nat} {x y z : Value} {t : TypeId} (h : w.heap[q]? = some (.cells #[x, y, z] t (0, 0))) : w.cell? ⟨q, 0, none⟩ = some x ∧ w.cell? ⟨q, 1, none⟩ = some y ∧ w.cell? ⟨q, 2, none⟩ = some z ∧ w.frozen? ⟨q, 0, none⟩ = false ∧ w.frozen? ⟨q, 1, none⟩ = false ∧ w.frozen? ⟨q, 2, none⟩ = false := by
 refine ⟨?_, ?_, ?_, ?_, ?_, ?_⟩ <;> simp [World.cell?, World.frozen?, h]
end Go.Proofs.Ytodeodndjkkkbaa
namespace Go.Proofs.Ytodeodndjkkkbaa
open Go.RowKit
set_option maxHeartbeats 1000000 in
set_option maxRecDepth 100000 in
theorem Su.has_c (v : Value) (r : List Kn.V) (c : Int) (w : World) (hv : Kn.Vals w v r) : Calls Try.prog 59 #[v, .int .i64 c] w fun e w' => e = .returned (.bool (Su.hasC c r)) ∧ w' = w := by
 obtain ⟨a, c0, rfl, _⟩ := hv
 unfold Su.hasC
 by_cases h0 : 0 ≤ c
 ·by_cases h1 : c < (r.length : Nat)
  ·have d0 : decide ((0 : Int) ≤ c) = true := decide_eq_true h0
   have d1 : decide (c < (r.length : Int)) = true := decide_eq_true h1
   rw [d0, d1]
   clear d0 d1
   go_enter Try.func59, Try.ntmps59
   go_wp2
   go_ret
   exact ⟨rfl, rfl⟩
  ·have d0 : decide ((0 : Int) ≤ c) = true := decide_eq_true h0
   have d1 : decide (c < (r.length : Int)) = false := decide_eq_false h1
   rw [d0, d1]
   clear d0 d1
   go_enter Try.func59, Try.ntmps59
   go_wp2
   go_ret
   exact ⟨rfl, rfl⟩
 ·have d0 : decide ((0 : Int) ≤ c) = false := decide_eq_false h0
  rw [d0]
  clear d0
  go_enter Try.func59, Try.ntmps59
  go_wp2
  go_ret
  exact ⟨rfl, rfl⟩
set_option maxHeartbeats 1000000 in
set_option maxRecDepth 100000 in
theorem Su.kept_c (v : Kn.V) (hz : Kn.Z v) (w : World) : Calls Try.prog 76 #[v.val] w fun e w' => e = .returned v.val ∧ Below w.heap.size w w' := by
 have CC : Hid (∀ w, _) := Lib.hid fun w => Tx.clone_c v.s w (by unfold Kn.Z at hz; omega)
 obtain ⟨vn, vi, vs⟩ := v
 simp only at CC
 clear hz
 have hw1 : ∃ wo, wo = (w.alloc (.cells #[.bool vn, .int .i64 vi, .string vs] 36)).alloc (.cells #[.bool false, .int .i64 0, .string ⟨#[]⟩] 36) := ⟨_, rfl⟩
 obtain ⟨wo, hwo⟩ := hw1
 have HA := Lib.hid (show wo.heap[w.heap.size]? = some (.cells #[.bool vn, .int .i64 vi, .string vs] 36 (0, 0)) by rw [hwo]; exact (((Below.refl _ _).alloc (Nat.le_refl _) _).block _ (by simp)).trans (heap_alloc_new w _))
 have HR := Lib.hid (show wo.heap[w.heap.size + 1]? = some (.cells #[.bool false, .int .i64 0, .string ⟨#[]⟩] 36 (0, 0)) by
  rw [hwo]
  have := heap_alloc_new (w.alloc (.cells #[.bool vn, .int .i64 vi, .string vs] 36)) (.cells #[.bool false, .int .i64 0, .string ⟨#[]⟩] 36)
  rwa [World.size_alloc] at this)
 have HB := Lib.hid (show Below w.heap.size w wo by rw [hwo]; exact ((Below.refl _ w).alloc (Nat.le_refl _) _).alloc (by simp) _)
 obtain ⟨x0, x1, x2, x3, x4, x5⟩ := Zn.three HA.out
 go_enter Try.func76, Try.ntmps76
 go_upto_region 1 with (fail)
 rw [← hwo]
 clear hwo
 go_wp2_with fail
 refine (CC.out _).mono ?_
 rintro e w1 ⟨rfl, g1⟩
 clear x0 x1 x2 x3 x4 x5
 have HA1 := Lib.hid ((g1.block _ (lt_of_block HA.out)).trans HA.out)
 have HR1 := Lib.hid ((g1.block _ (lt_of_block HR.out)).trans HR.out)
 have HB1 := Lib.hid (HB.out.trans (g1.mono HB.out.size))
 clear g1
 obtain ⟨x0, x1, x2, x3, x4, x5⟩ := Zn.three HA1.out
 obtain ⟨r0, r1, r2, r3, r4, r5⟩ := Zn.three HR1.out
 have HE := Lib.hid (Zn.below_set3 (Zn.below_set HB1.out (q := w.heap.size) (Nat.le_refl _) 2 (.string vs)) (q := w.heap.size + 1) (by omega) 0 1 2 (.bool vn) (.int .i64 vi) (.string vs))
 go_wp2
 (try simp only [Exit.inBlock, Exit.then])
 refine bodyPost_ret (v := .agg #[.bool vn, .int .i64 vi, .string vs]) ?_ rfl ⟨rfl, HE.out⟩
 rw [Zn.results_cell rfl]
 go_simp
end Go.Proofs.Ytodeodndjkkkbaa
namespace Go.Proofs.Ytodeodndjkkkbaa
open Go.RowKit
structure Su.SA (w : World) (s : Su.S) (k : Nat) (W : World) : Prop where
 blk : Su.Blk W w.heap.size s
 res : Su.Blk W (w.heap.size + k) Su.zero
 bel : Below w.heap.size w W
theorem Su.SA.start1 (w : World) (s : Su.S) : Su.SA w s 1 ((w.alloc (.cells (Su.cs s) 52)).alloc (.cells (Su.cs Su.zero) 52)) := by
 refine ⟨(Su.Blk.new w s).alloc _, ?_, ((Below.refl _ w).alloc (Nat.le_refl _) _).alloc (by simp) _⟩
 have := Su.Blk.new (w.alloc (.cells (Su.cs s) 52)) Su.zero
 rwa [World.size_alloc] at this
theorem Su.SA.kept {w W W' : World} {s : Su.S} {k : Nat} (h : Su.SA w s k W) (g : Below W.heap.size W W') : Su.SA w s k W' := ⟨h.blk.kept g, h.res.kept g, h.bel.trans (g.mono h.bel.size)⟩
theorem Su.SA.lo {w W : World} {s : Su.S} {k : Nat} (h : Su.SA w s k W) (hk : 0 < k := by omega) : Su.SA w s k (((W.setCell ⟨w.heap.size, 3, none⟩ (.bool s.lo.null)).setCell ⟨w.heap.size, 4, none⟩ (.int .i64 s.lo.n)).setCell ⟨w.heap.size, 5, none⟩ (.string s.lo.s)) :=
 ⟨h.blk.setLo s.lo, ((h.res.other (by omega) _ _).other (by omega) _ _).other (by omega) _ _, Zn.below_set3 h.bel (Nat.le_refl _) _ _ _ _ _ _⟩
theorem Su.SA.hi {w W : World} {s : Su.S} {k : Nat} (h : Su.SA w s k W) (hk : 0 < k := by omega) : Su.SA w s k (((W.setCell ⟨w.heap.size, 6, none⟩ (.bool s.hi.null)).setCell ⟨w.heap.size, 7, none⟩ (.int .i64 s.hi.n)).setCell ⟨w.heap.size, 8, none⟩ (.string s.hi.s)) :=
 ⟨h.blk.setHi s.hi, ((h.res.other (by omega) _ _).other (by omega) _ _).other (by omega) _ _, Zn.below_set3 h.bel (Nat.le_refl _) _ _ _ _ _ _⟩
set_option maxHeartbeats 4000000 in
set_option maxRecDepth 100000 in
theorem Su.own_c (s : Su.S) (hl : Kn.Z s.lo) (hh : Kn.Z s.hi) (w : World) : Calls Try.prog 61 #[s.val] w fun e w' => e = .returned s.val ∧ Below w.heap.size w w' := by
 have HST := Lib.hid (Su.SA.start1 w s)
 have C1 := fun w => Su.kept_c s.lo hl w
 have C2 := fun w => Su.kept_c s.hi hh w
 clear hl hh
 obtain ⟨sc, ss, sv, ⟨ln, li, ls⟩, ⟨hn, hi, hs⟩⟩ := s
 unfold Kn.V.val at C1 C2
 simp only at C1 C2
 simp only [Su.cs, Su.zero, Zn.zv] at HST
 have HC1 : Hid (∀ w, _) := Lib.hid C1
 have HC2 : Hid (∀ w, _) := Lib.hid C2
 clear C1 C2
 go_enter Try.func61, Try.ntmps61
 go_upto_region 1 with (fail)
 generalize hwo : (w.alloc _).alloc _ = wo at HST ⊢
 clear hwo
 have HS : Hid (∀ W, Su.Blk W w.heap.size ⟨sc, ss, sv, ⟨ln, li, ls⟩, ⟨hn, hi, hs⟩⟩ → W.cell? ⟨w.heap.size, 3, none⟩ = some (.bool ln) ∧ W.cell? ⟨w.heap.size, 4, none⟩ = some (.int .i64 li) ∧ W.cell? ⟨w.heap.size, 5, none⟩ = some (.string ls) ∧ W.cell? ⟨w.heap.size, 6, none⟩ = some (.bool hn) ∧ W.cell? ⟨w.heap.size, 7, none⟩ = some (.int .i64 hi) ∧ W.cell? ⟨w.heap.size, 8, none⟩ = some (.string hs) ∧ W.frozen? ⟨w.heap.size, 3, none⟩ = false ∧ W.frozen? ⟨w.heap.size, 4, none⟩ = false ∧ W.frozen? ⟨w.heap.size, 5, none⟩ = false ∧ W.frozen? ⟨w.heap.size, 6, none⟩ = false ∧ W.frozen? ⟨w.heap.size, 7, none⟩ = false ∧ W.frozen? ⟨w.heap.size, 8, none⟩ = false) := Lib.hid fun W h => by
  obtain ⟨-, -, -, x3, x4, x5, x6, x7, x8⟩ := h.cells
  exact ⟨x3, x4, x5, x6, x7, x8, h.frozen 3, h.frozen 4, h.frozen 5, h.frozen 6, h.frozen 7, h.frozen 8⟩
 have HB0 : Hid (Su.Blk wo.drew w.heap.size ⟨sc, ss, sv, ⟨ln, li, ls⟩, ⟨hn, hi, hs⟩⟩) := Lib.hid HST.out.blk
 go_region_held3 (fun W => W.cell? ⟨w.heap.size, 3, none⟩ = some (.bool ln) ∧ W.cell? ⟨w.heap.size, 4, none⟩ = some (.int .i64 li) ∧ W.cell? ⟨w.heap.size, 5, none⟩ = some (.string ls) ∧ W.cell? ⟨w.heap.size, 6, none⟩ = some (.bool hn) ∧ W.cell? ⟨w.heap.size, 7, none⟩ = some (.int .i64 hi) ∧ W.cell? ⟨w.heap.size, 8, none⟩ = some (.string hs) ∧ W.frozen? ⟨w.heap.size, 3, none⟩ = false ∧ W.frozen? ⟨w.heap.size, 4, none⟩ = false ∧ W.frozen? ⟨w.heap.size, 5, none⟩ = false ∧ W.frozen? ⟨w.heap.size, 6, none⟩ = false ∧ W.frozen? ⟨w.heap.size, 7, none⟩ = false ∧ W.frozen? ⟨w.heap.size, 8, none⟩ = false)
  (first
   | with_reducible exact HS.out _ HB0.out
   | with_reducible exact HS.out _ (HB0.out.kept g1)
   | with_reducible exact HS.out _ ((HB0.out.kept g1).kept g2)
   | with_reducible exact HS.out _ (((HB0.out.kept g1).kept g2).setLo ⟨ln, li, ls⟩)
   | with_reducible exact HS.out _ (((HB0.out.kept g1).kept g2).setHi ⟨hn, hi, hs⟩)
   | with_reducible exact HS.out _ ((((HB0.out.kept g1).kept g2).setLo ⟨ln, li, ls⟩).setHi ⟨hn, hi, hs⟩)
   | with_reducible exact HS.out _ ((((HB0.out.kept g1).kept g2).setHi ⟨hn, hi, hs⟩).setLo ⟨ln, li, ls⟩))
  (first
   | (go_at_call 76; (with_reducible refine (HC1.out _).mono ?_); rintro e w1 ⟨rfl, g1⟩)
   | (go_at_call 76; (with_reducible refine (HC2.out _).mono ?_); rintro e w2 ⟨rfl, g2⟩))
 have HF : Hid (Su.SA w ⟨sc, ss, sv, ⟨ln, li, ls⟩, ⟨hn, hi, hs⟩⟩ 1 _) := Lib.hid ((((HST.out.kept (Kn.drewN_below wo 1)).kept g1).kept g2).lo.hi)
 have HS2 : Hid (Below w.heap.size w _) := Lib.hid HF.out.bel
 obtain ⟨x0, x1, x2, x3, x4, x5, x6, x7, x8⟩ := HF.out.blk.cells
 obtain ⟨r0, r1, r2, r3, r4, r5, r6, r7, r8⟩ := HF.out.res.cells
 obtain ⟨f0, f1, f2, f3, f4, f5, f6, f7, f8⟩ := HF.out.res.frozens
 have HP := Lib.hid (Su.put_below (q := w.heap.size + 1) HF.out.bel (by omega) ⟨sc, ss, sv, ⟨ln, li, ls⟩, ⟨hn, hi, hs⟩⟩)
 simp only at x0 x1 x2 x3 x4 x5 x6 x7 x8
 generalize hwf : World.setCell _ _ _ = wf at HF HP x0 x1 x2 x3 x4 x5 x6 x7 x8 r0 r1 r2 r3 r4 r5 r6 r7 r8 f0 f1 f2 f3 f4 f5 f6 f7 f8 ⊢
 clear hwf HS2
 go_wp2
 (try simp only [Exit.inBlock, Exit.then])
 refine bodyPost_ret (v := .agg #[.int .i64 sc, .int .i64 ss, .int .i64 sv, .bool ln, .int .i64 li, .string ls, .bool hn, .int .i64 hi, .string hs]) ?_ rfl ⟨rfl, HP.out⟩
 rw [Zn.results_cell rfl]
 go_simp
end Go.Proofs.Ytodeodndjkkkbaa
namespace Go.Proofs.Ytodeodndjkkkbaa
open Go.RowKit
structure Su.SB (w : World) (s : Su.S) (v : Kn.V) (W : World) : Prop where
 blk : Su.Blk W w.heap.size s
 val : Kn.At W (w.heap.size + 1) 0 v
 res : Su.Blk W (w.heap.size + 2) Su.zero
 bel : Below w.heap.size w W
theorem Su.SB.start (w : World) (s : Su.S) (v : Kn.V) : Su.SB w s v (((w.alloc (.cells (Su.cs s) 52)).alloc (.cells #[.bool v.null, .int .i64 v.n, .string v.s] 36)).alloc (.cells (Su.cs Su.zero) 52)) := by
 refine ⟨((Su.Blk.new w s).alloc _).alloc _, ?_, ?_, (((Below.refl _ w).alloc (Nat.le_refl _) _).alloc (by simp) _).alloc (by simp; omega) _⟩
 ·have := (Kn.At.new (w.alloc (.cells (Su.cs s) 52)) v 36).alloc (.cells (Su.cs Su.zero) 52)
  rwa [World.size_alloc] at this
 ·have := Su.Blk.new ((w.alloc (.cells (Su.cs s) 52)).alloc (.cells #[.bool v.null, .int .i64 v.n, .string v.s] 36)) Su.zero
  rwa [World.size_alloc, World.size_alloc] at this
theorem Su.SB.kept {w W W' : World} {s : Su.S} {v : Kn.V} (h : Su.SB w s v W) (g : Below W.heap.size W W') : Su.SB w s v W' := ⟨h.blk.kept g, h.val.later g, h.res.kept g, h.bel.trans (g.mono h.bel.size)⟩
theorem Su.at_set {w : World} {b o g : Nat} {v : Kn.V} (h : Kn.At w b o v) (hne : b ≠ g) (i : Nat) (u : Value) : Kn.At (w.setCell ⟨g, i, none⟩ u) b o v :=
 ⟨(World.cell?_of_block (heap_setCell_other w ⟨g, i, none⟩ b u hne)).trans h.c0, (World.cell?_of_block (heap_setCell_other w ⟨g, i, none⟩ b u hne)).trans h.c1, (World.cell?_of_block (heap_setCell_other w ⟨g, i, none⟩ b u hne)).trans h.c2⟩
theorem Su.SB.set1 {w W : World} {s : Su.S} {v : Kn.V} (h : Su.SB w s v W) (x : Int) : Su.SB w ⟨s.cnt, x, s.vals, s.lo, s.hi⟩ v (W.setCell ⟨w.heap.size, 1, none⟩ (.int .i64 x)) :=
 ⟨h.blk.set1 x, Su.at_set h.val (by omega) _ _, h.res.other (by omega) _ _, Zn.below_set h.bel (Nat.le_refl _) _ _⟩
theorem Su.SB.set2 {w W : World} {s : Su.S} {v : Kn.V} (h : Su.SB w s v W) (x : Int) : Su.SB w ⟨s.cnt, s.sum, x, s.lo, s.hi⟩ v (W.setCell ⟨w.heap.size, 2, none⟩ (.int .i64 x)) :=
 ⟨h.blk.set2 x, Su.at_set h.val (by omega) _ _, h.res.other (by omega) _ _, Zn.below_set h.bel (Nat.le_refl _) _ _⟩
theorem Su.SB.setLo {w W : World} {s : Su.S} {v : Kn.V} (h : Su.SB w s v W) (u : Kn.V) : Su.SB w ⟨s.cnt, s.sum, s.vals, u, s.hi⟩ v (((W.setCell ⟨w.heap.size, 3, none⟩ (.bool u.null)).setCell ⟨w.heap.size, 4, none⟩ (.int .i64 u.n)).setCell ⟨w.heap.size, 5, none⟩ (.string u.s)) :=
 ⟨h.blk.setLo u, Su.at_set (Su.at_set (Su.at_set h.val (by omega) _ _) (by omega) _ _) (by omega) _ _, ((h.res.other (by omega) _ _).other (by omega) _ _).other (by omega) _ _, Zn.below_set3 h.bel (Nat.le_refl _) _ _ _ _ _ _⟩
theorem Su.SB.setHi {w W : World} {s : Su.S} {v : Kn.V} (h : Su.SB w s v W) (u : Kn.V) : Su.SB w ⟨s.cnt, s.sum, s.vals, s.lo, u⟩ v (((W.setCell ⟨w.heap.size, 6, none⟩ (.bool u.null)).setCell ⟨w.heap.size, 7, none⟩ (.int .i64 u.n)).setCell ⟨w.heap.size, 8, none⟩ (.string u.s)) :=
 ⟨h.blk.setHi u, Su.at_set (Su.at_set (Su.at_set h.val (by omega) _ _) (by omega) _ _) (by omega) _ _, ((h.res.other (by omega) _ _).other (by omega) _ _).other (by omega) _ _, Zn.below_set3 h.bel (Nat.le_refl _) _ _ _ _ _ _⟩
set_option maxHeartbeats 4000000 in
set_option maxRecDepth 100000 in
theorem Su.add_c (s : Su.S) (x : Kn.V) (w : World) : Calls Try.prog 60 #[s.val, x.val] w fun e w' => e = .returned (Su.add s x).val ∧ Below w.heap.size w w' := by
 have HST := Lib.hid (Su.SB.start w s x)
 have cL := fun w => Kn.compare_c x s.lo w
 have cU := fun w => Kn.compare_c x s.hi w
 obtain ⟨xn, xi, xs⟩ := x
 obtain ⟨sc, ss, sv, ⟨ln, li, ls⟩, ⟨hn, hi, hs⟩⟩ := s
 unfold Kn.V.val at cL cU
 simp only at cL cU
 simp only [Su.cs, Su.zero, Zn.zv] at HST
 have HCL : Hid (∀ w, _) := Lib.hid cL
 have HCU : Hid (∀ w, _) := Lib.hid cU
 clear cL cU
 generalize hX : Kn.cmp ⟨xn, xi, xs⟩ ⟨ln, li, ls⟩ = Xx at HCL
 generalize hY : Kn.cmp ⟨xn, xi, xs⟩ ⟨hn, hi, hs⟩ = Y at HCU
 have HXE := Lib.hid hX
 have HYE := Lib.hid hY
 clear hX hY
 go_enter Try.func60, Try.ntmps60
 go_upto_region 1 with (fail)
 generalize hwo : ((w.alloc _).alloc _).alloc _ = wo at HST ⊢
 clear hwo
 by_cases h0 : sv = 0
 ·have b0 : (sv == 0) = true := beq_iff_eq.2 h0
  have H0 := Lib.hid h0
  clear h0
  have HU1 := HST
  obtain ⟨x0, x1, x2⟩ := HST.out.val
  obtain ⟨z0, z1, z2, z3, z4, z5, z6, z7, z8⟩ := HST.out.blk.cells
  obtain ⟨f0, f1, f2, f3, f4, f5, f6, f7, f8⟩ := HST.out.blk.frozens
  simp only at x0 x1 x2 z0 z1 z2 z3 z4 z5 z6 z7 z8
  go_upto_region 3 with (fail)
  have HS2 : Hid (Su.SB w ⟨sc, ss, sv, ⟨xn, xi, xs⟩, ⟨hn, hi, hs⟩⟩ ⟨xn, xi, xs⟩ _) := Lib.hid (HST.out.setLo ⟨xn, xi, xs⟩)
  clear x0 x1 x2 z0 z1 z2 z3 z4 z5 z6 z7 z8 f0 f1 f2 f3 f4 f5 f6 f7 f8
  generalize hw2 : World.setCell _ _ _ = w2 at HS2 ⊢
  clear hw2
  obtain ⟨x0, x1, x2⟩ := HS2.out.val
  obtain ⟨z0, z1, z2, z3, z4, z5, z6, z7, z8⟩ := HS2.out.blk.cells
  obtain ⟨f0, f1, f2, f3, f4, f5, f6, f7, f8⟩ := HS2.out.blk.frozens
  simp only at x0 x1 x2 z0 z1 z2 z3 z4 z5 z6 z7 z8
  go_upto_region 5 with (fail)
  have HS3 : Hid (Su.SB w ⟨sc, ss, sv, ⟨xn, xi, xs⟩, ⟨xn, xi, xs⟩⟩ ⟨xn, xi, xs⟩ _) := Lib.hid (HS2.out.setHi ⟨xn, xi, xs⟩)
  clear x0 x1 x2 z0 z1 z2 z3 z4 z5 z6 z7 z8 f0 f1 f2 f3 f4 f5 f6 f7 f8
  generalize hw2 : World.setCell _ _ _ = w3 at HS3 ⊢
  clear hw2
  obtain ⟨x0, x1, x2⟩ := HS3.out.val
  obtain ⟨z0, z1, z2, z3, z4, z5, z6, z7, z8⟩ := HS3.out.blk.cells
  obtain ⟨f0, f1, f2, f3, f4, f5, f6, f7, f8⟩ := HS3.out.blk.frozens
  simp only at x0 x1 x2 z0 z1 z2 z3 z4 z5 z6 z7 z8
  go_upto_region 7 with (fail)
  have HE : Hid (Su.SB w ⟨sc, wrap64 (ss + xi), wrap64 (sv + 1), ⟨xn, xi, xs⟩, ⟨xn, xi, xs⟩⟩ ⟨xn, xi, xs⟩ _) := Lib.hid ((HS3.out.set2 (wrap64 (sv + 1))).set1 (wrap64 (ss + xi)))
  clear x0 x1 x2 z0 z1 z2 z3 z4 z5 z6 z7 z8 f0 f1 f2 f3 f4 f5 f6 f7 f8
  generalize hwe : World.setCell _ _ _ = we at HE ⊢
  clear hwe
  obtain ⟨x0, x1, x2⟩ := HE.out.val
  obtain ⟨z0, z1, z2, z3, z4, z5, z6, z7, z8⟩ := HE.out.blk.cells
  obtain ⟨f0, f1, f2, f3, f4, f5, f6, f7, f8⟩ := HE.out.blk.frozens
  simp only at x0 x1 x2 z0 z1 z2 z3 z4 z5 z6 z7 z8
  obtain ⟨r0, r1, r2, r3, r4, r5, r6, r7, r8⟩ := HE.out.res.cells
  obtain ⟨h0, h1, h2, h3, h4, h5, h6, h7, h8⟩ := HE.out.res.frozens
  have HP := Lib.hid (Su.put_below (q := w.heap.size + 2) HE.out.bel (by omega) ⟨sc, wrap64 (ss + xi), wrap64 (sv + 1), ⟨xn, xi, xs⟩, ⟨xn, xi, xs⟩⟩)
  go_wp2
  (try simp only [Exit.inBlock, Exit.then])
  refine bodyPost_ret (v := .agg #[.int .i64 sc, .int .i64 (wrap64 (ss + xi)), .int .i64 (wrap64 (sv + 1)), .bool xn, .int .i64 xi, .string xs, .bool xn, .int .i64 xi, .string xs]) ?_ rfl ⟨?_, HP.out⟩
  ·rw [Zn.results_cell rfl]
   go_simp
  ·unfold Su.add
   simp only
   rw [if_pos (Or.inl H0.out), if_pos (Or.inl H0.out)]
 ·have b0 : (sv == 0) = false := beq_eq_false_iff_ne.2 h0
  have H0 := Lib.hid h0
  clear h0
  obtain ⟨x0, x1, x2⟩ := HST.out.val
  obtain ⟨z0, z1, z2, z3, z4, z5, z6, z7, z8⟩ := HST.out.blk.cells
  obtain ⟨f0, f1, f2, f3, f4, f5, f6, f7, f8⟩ := HST.out.blk.frozens
  simp only at x0 x1 x2 z0 z1 z2 z3 z4 z5 z6 z7 z8
  go_wp2_with fail
  with_reducible refine (HCL.out _).mono ?_
  rintro e w1 ⟨rfl, g1⟩
  have HS1 := Lib.hid (HST.out.kept g1)
  clear x0 x1 x2 z0 z1 z2 z3 z4 z5 z6 z7 z8 f0 f1 f2 f3 f4 f5 f6 f7 f8
  clear g1
  obtain ⟨x0, x1, x2⟩ := HS1.out.val
  obtain ⟨z0, z1, z2, z3, z4, z5, z6, z7, z8⟩ := HS1.out.blk.cells
  obtain ⟨f0, f1, f2, f3, f4, f5, f6, f7, f8⟩ := HS1.out.blk.frozens
  simp only at x0 x1 x2 z0 z1 z2 z3 z4 z5 z6 z7 z8
  by_cases hX : Xx < 0
  ·have HXX := Lib.hid hX
   go_upto_region 3 with (fail)
   have HS2 : Hid (Su.SB w ⟨sc, ss, sv, ⟨xn, xi, xs⟩, ⟨hn, hi, hs⟩⟩ ⟨xn, xi, xs⟩ _) := Lib.hid (HS1.out.setLo ⟨xn, xi, xs⟩)
   clear x0 x1 x2 z0 z1 z2 z3 z4 z5 z6 z7 z8 f0 f1 f2 f3 f4 f5 f6 f7 f8
   generalize hw2 : World.setCell _ _ _ = w2 at HS2 ⊢
   clear hw2
   clear hX
   obtain ⟨x0, x1, x2⟩ := HS2.out.val
   obtain ⟨z0, z1, z2, z3, z4, z5, z6, z7, z8⟩ := HS2.out.blk.cells
   obtain ⟨f0, f1, f2, f3, f4, f5, f6, f7, f8⟩ := HS2.out.blk.frozens
   simp only at x0 x1 x2 z0 z1 z2 z3 z4 z5 z6 z7 z8
   go_wp2_with fail
   with_reducible refine (HCU.out _).mono ?_
   rintro e w4 ⟨rfl, g1⟩
   have HS4 := Lib.hid (HS2.out.kept g1)
   clear x0 x1 x2 z0 z1 z2 z3 z4 z5 z6 z7 z8 f0 f1 f2 f3 f4 f5 f6 f7 f8
   clear g1
   obtain ⟨x0, x1, x2⟩ := HS4.out.val
   obtain ⟨z0, z1, z2, z3, z4, z5, z6, z7, z8⟩ := HS4.out.blk.cells
   obtain ⟨f0, f1, f2, f3, f4, f5, f6, f7, f8⟩ := HS4.out.blk.frozens
   simp only at x0 x1 x2 z0 z1 z2 z3 z4 z5 z6 z7 z8
   by_cases hY : 0 < Y
   ·have HYY := Lib.hid hY
    go_upto_region 5 with (fail)
    have HS5 : Hid (Su.SB w ⟨sc, ss, sv, ⟨xn, xi, xs⟩, ⟨xn, xi, xs⟩⟩ ⟨xn, xi, xs⟩ _) := Lib.hid (HS4.out.setHi ⟨xn, xi, xs⟩)
    clear x0 x1 x2 z0 z1 z2 z3 z4 z5 z6 z7 z8 f0 f1 f2 f3 f4 f5 f6 f7 f8
    generalize hw2 : World.setCell _ _ _ = w5 at HS5 ⊢
    clear hw2
    clear hY
    obtain ⟨x0, x1, x2⟩ := HS5.out.val
    obtain ⟨z0, z1, z2, z3, z4, z5, z6, z7, z8⟩ := HS5.out.blk.cells
    obtain ⟨f0, f1, f2, f3, f4, f5, f6, f7, f8⟩ := HS5.out.blk.frozens
    simp only at x0 x1 x2 z0 z1 z2 z3 z4 z5 z6 z7 z8
    go_upto_region 7 with (fail)
    have HE : Hid (Su.SB w ⟨sc, wrap64 (ss + xi), wrap64 (sv + 1), ⟨xn, xi, xs⟩, ⟨xn, xi, xs⟩⟩ ⟨xn, xi, xs⟩ _) := Lib.hid ((HS5.out.set2 (wrap64 (sv + 1))).set1 (wrap64 (ss + xi)))
    clear x0 x1 x2 z0 z1 z2 z3 z4 z5 z6 z7 z8 f0 f1 f2 f3 f4 f5 f6 f7 f8
    generalize hwe : World.setCell _ _ _ = we at HE ⊢
    clear hwe
    obtain ⟨x0, x1, x2⟩ := HE.out.val
    obtain ⟨z0, z1, z2, z3, z4, z5, z6, z7, z8⟩ := HE.out.blk.cells
    obtain ⟨f0, f1, f2, f3, f4, f5, f6, f7, f8⟩ := HE.out.blk.frozens
    simp only at x0 x1 x2 z0 z1 z2 z3 z4 z5 z6 z7 z8
    obtain ⟨r0, r1, r2, r3, r4, r5, r6, r7, r8⟩ := HE.out.res.cells
    obtain ⟨h0, h1, h2, h3, h4, h5, h6, h7, h8⟩ := HE.out.res.frozens
    have HP := Lib.hid (Su.put_below (q := w.heap.size + 2) HE.out.bel (by omega) ⟨sc, wrap64 (ss + xi), wrap64 (sv + 1), ⟨xn, xi, xs⟩, ⟨xn, xi, xs⟩⟩)
    go_wp2
    (try simp only [Exit.inBlock, Exit.then])
    refine bodyPost_ret (v := .agg #[.int .i64 sc, .int .i64 (wrap64 (ss + xi)), .int .i64 (wrap64 (sv + 1)), .bool xn, .int .i64 xi, .string xs, .bool xn, .int .i64 xi, .string xs]) ?_ rfl ⟨?_, HP.out⟩
    ·rw [Zn.results_cell rfl]
     go_simp
    ·unfold Su.add
     simp only
     rw [if_pos (Or.inr (show Kn.cmp ⟨xn, xi, xs⟩ ⟨ln, li, ls⟩ < 0 by rw [HXE.out]; exact HXX.out)), if_pos (Or.inr (show 0 < Kn.cmp ⟨xn, xi, xs⟩ ⟨hn, hi, hs⟩ by rw [HYE.out]; exact HYY.out))]
   ·have HYY := Lib.hid hY
    go_upto_region 5 with (fail)
    clear hY
    have HS5 := HS4
    clear x0 x1 x2 z0 z1 z2 z3 z4 z5 z6 z7 z8 f0 f1 f2 f3 f4 f5 f6 f7 f8
    obtain ⟨x0, x1, x2⟩ := HS5.out.val
    obtain ⟨z0, z1, z2, z3, z4, z5, z6, z7, z8⟩ := HS5.out.blk.cells
    obtain ⟨f0, f1, f2, f3, f4, f5, f6, f7, f8⟩ := HS5.out.blk.frozens
    simp only at x0 x1 x2 z0 z1 z2 z3 z4 z5 z6 z7 z8
    go_upto_region 7 with (fail)
    have HE : Hid (Su.SB w ⟨sc, wrap64 (ss + xi), wrap64 (sv + 1), ⟨xn, xi, xs⟩, ⟨hn, hi, hs⟩⟩ ⟨xn, xi, xs⟩ _) := Lib.hid ((HS5.out.set2 (wrap64 (sv + 1))).set1 (wrap64 (ss + xi)))
    clear x0 x1 x2 z0 z1 z2 z3 z4 z5 z6 z7 z8 f0 f1 f2 f3 f4 f5 f6 f7 f8
    generalize hwe : World.setCell _ _ _ = we at HE ⊢
    clear hwe
    obtain ⟨x0, x1, x2⟩ := HE.out.val
    obtain ⟨z0, z1, z2, z3, z4, z5, z6, z7, z8⟩ := HE.out.blk.cells
    obtain ⟨f0, f1, f2, f3, f4, f5, f6, f7, f8⟩ := HE.out.blk.frozens
    simp only at x0 x1 x2 z0 z1 z2 z3 z4 z5 z6 z7 z8
    obtain ⟨r0, r1, r2, r3, r4, r5, r6, r7, r8⟩ := HE.out.res.cells
    obtain ⟨h0, h1, h2, h3, h4, h5, h6, h7, h8⟩ := HE.out.res.frozens
    have HP := Lib.hid (Su.put_below (q := w.heap.size + 2) HE.out.bel (by omega) ⟨sc, wrap64 (ss + xi), wrap64 (sv + 1), ⟨xn, xi, xs⟩, ⟨hn, hi, hs⟩⟩)
    go_wp2
    (try simp only [Exit.inBlock, Exit.then])
    refine bodyPost_ret (v := .agg #[.int .i64 sc, .int .i64 (wrap64 (ss + xi)), .int .i64 (wrap64 (sv + 1)), .bool xn, .int .i64 xi, .string xs, .bool hn, .int .i64 hi, .string hs]) ?_ rfl ⟨?_, HP.out⟩
    ·rw [Zn.results_cell rfl]
     go_simp
    ·unfold Su.add
     simp only
     rw [if_pos (Or.inr (show Kn.cmp ⟨xn, xi, xs⟩ ⟨ln, li, ls⟩ < 0 by rw [HXE.out]; exact HXX.out)), if_neg (show ¬ (sv = 0 ∨ 0 < Kn.cmp ⟨xn, xi, xs⟩ ⟨hn, hi, hs⟩) by rw [HYE.out]; have := HYY.out; have := H0.out; omega)]
  ·have HXX := Lib.hid hX
   go_upto_region 3 with (fail)
   clear hX
   have HS2 := HS1
   clear x0 x1 x2 z0 z1 z2 z3 z4 z5 z6 z7 z8 f0 f1 f2 f3 f4 f5 f6 f7 f8
   obtain ⟨x0, x1, x2⟩ := HS2.out.val
   obtain ⟨z0, z1, z2, z3, z4, z5, z6, z7, z8⟩ := HS2.out.blk.cells
   obtain ⟨f0, f1, f2, f3, f4, f5, f6, f7, f8⟩ := HS2.out.blk.frozens
   simp only at x0 x1 x2 z0 z1 z2 z3 z4 z5 z6 z7 z8
   go_wp2_with fail
   with_reducible refine (HCU.out _).mono ?_
   rintro e w4 ⟨rfl, g1⟩
   have HS4 := Lib.hid (HS2.out.kept g1)
   clear x0 x1 x2 z0 z1 z2 z3 z4 z5 z6 z7 z8 f0 f1 f2 f3 f4 f5 f6 f7 f8
   clear g1
   obtain ⟨x0, x1, x2⟩ := HS4.out.val
   obtain ⟨z0, z1, z2, z3, z4, z5, z6, z7, z8⟩ := HS4.out.blk.cells
   obtain ⟨f0, f1, f2, f3, f4, f5, f6, f7, f8⟩ := HS4.out.blk.frozens
   simp only at x0 x1 x2 z0 z1 z2 z3 z4 z5 z6 z7 z8
   by_cases hY : 0 < Y
   ·have HYY := Lib.hid hY
    go_upto_region 5 with (fail)
    have HS5 : Hid (Su.SB w ⟨sc, ss, sv, ⟨ln, li, ls⟩, ⟨xn, xi, xs⟩⟩ ⟨xn, xi, xs⟩ _) := Lib.hid (HS4.out.setHi ⟨xn, xi, xs⟩)
    clear x0 x1 x2 z0 z1 z2 z3 z4 z5 z6 z7 z8 f0 f1 f2 f3 f4 f5 f6 f7 f8
    generalize hw2 : World.setCell _ _ _ = w5 at HS5 ⊢
    clear hw2
    clear hY
    obtain ⟨x0, x1, x2⟩ := HS5.out.val
    obtain ⟨z0, z1, z2, z3, z4, z5, z6, z7, z8⟩ := HS5.out.blk.cells
    obtain ⟨f0, f1, f2, f3, f4, f5, f6, f7, f8⟩ := HS5.out.blk.frozens
    simp only at x0 x1 x2 z0 z1 z2 z3 z4 z5 z6 z7 z8
    go_upto_region 7 with (fail)
    have HE : Hid (Su.SB w ⟨sc, wrap64 (ss + xi), wrap64 (sv + 1), ⟨ln, li, ls⟩, ⟨xn, xi, xs⟩⟩ ⟨xn, xi, xs⟩ _) := Lib.hid ((HS5.out.set2 (wrap64 (sv + 1))).set1 (wrap64 (ss + xi)))
    clear x0 x1 x2 z0 z1 z2 z3 z4 z5 z6 z7 z8 f0 f1 f2 f3 f4 f5 f6 f7 f8
    generalize hwe : World.setCell _ _ _ = we at HE ⊢
    clear hwe
    obtain ⟨x0, x1, x2⟩ := HE.out.val
    obtain ⟨z0, z1, z2, z3, z4, z5, z6, z7, z8⟩ := HE.out.blk.cells
    obtain ⟨f0, f1, f2, f3, f4, f5, f6, f7, f8⟩ := HE.out.blk.frozens
    simp only at x0 x1 x2 z0 z1 z2 z3 z4 z5 z6 z7 z8
    obtain ⟨r0, r1, r2, r3, r4, r5, r6, r7, r8⟩ := HE.out.res.cells
    obtain ⟨h0, h1, h2, h3, h4, h5, h6, h7, h8⟩ := HE.out.res.frozens
    have HP := Lib.hid (Su.put_below (q := w.heap.size + 2) HE.out.bel (by omega) ⟨sc, wrap64 (ss + xi), wrap64 (sv + 1), ⟨ln, li, ls⟩, ⟨xn, xi, xs⟩⟩)
    go_wp2
    (try simp only [Exit.inBlock, Exit.then])
    refine bodyPost_ret (v := .agg #[.int .i64 sc, .int .i64 (wrap64 (ss + xi)), .int .i64 (wrap64 (sv + 1)), .bool ln, .int .i64 li, .string ls, .bool xn, .int .i64 xi, .string xs]) ?_ rfl ⟨?_, HP.out⟩
    ·rw [Zn.results_cell rfl]
     go_simp
    ·unfold Su.add
     simp only
     rw [if_neg (show ¬ (sv = 0 ∨ Kn.cmp ⟨xn, xi, xs⟩ ⟨ln, li, ls⟩ < 0) by rw [HXE.out]; have := HXX.out; have := H0.out; omega), if_pos (Or.inr (show 0 < Kn.cmp ⟨xn, xi, xs⟩ ⟨hn, hi, hs⟩ by rw [HYE.out]; exact HYY.out))]
   ·have HYY := Lib.hid hY
    go_upto_region 5 with (fail)
    clear hY
    have HS5 := HS4
    clear x0 x1 x2 z0 z1 z2 z3 z4 z5 z6 z7 z8 f0 f1 f2 f3 f4 f5 f6 f7 f8
    obtain ⟨x0, x1, x2⟩ := HS5.out.val
    obtain ⟨z0, z1, z2, z3, z4, z5, z6, z7, z8⟩ := HS5.out.blk.cells
    obtain ⟨f0, f1, f2, f3, f4, f5, f6, f7, f8⟩ := HS5.out.blk.frozens
    simp only at x0 x1 x2 z0 z1 z2 z3 z4 z5 z6 z7 z8
    go_upto_region 7 with (fail)
    have HE : Hid (Su.SB w ⟨sc, wrap64 (ss + xi), wrap64 (sv + 1), ⟨ln, li, ls⟩, ⟨hn, hi, hs⟩⟩ ⟨xn, xi, xs⟩ _) := Lib.hid ((HS5.out.set2 (wrap64 (sv + 1))).set1 (wrap64 (ss + xi)))
    clear x0 x1 x2 z0 z1 z2 z3 z4 z5 z6 z7 z8 f0 f1 f2 f3 f4 f5 f6 f7 f8
    generalize hwe : World.setCell _ _ _ = we at HE ⊢
    clear hwe
    obtain ⟨x0, x1, x2⟩ := HE.out.val
    obtain ⟨z0, z1, z2, z3, z4, z5, z6, z7, z8⟩ := HE.out.blk.cells
    obtain ⟨f0, f1, f2, f3, f4, f5, f6, f7, f8⟩ := HE.out.blk.frozens
    simp only at x0 x1 x2 z0 z1 z2 z3 z4 z5 z6 z7 z8
    obtain ⟨r0, r1, r2, r3, r4, r5, r6, r7, r8⟩ := HE.out.res.cells
    obtain ⟨h0, h1, h2, h3, h4, h5, h6, h7, h8⟩ := HE.out.res.frozens
    have HP := Lib.hid (Su.put_below (q := w.heap.size + 2) HE.out.bel (by omega) ⟨sc, wrap64 (ss + xi), wrap64 (sv + 1), ⟨ln, li, ls⟩, ⟨hn, hi, hs⟩⟩)
    go_wp2
    (try simp only [Exit.inBlock, Exit.then])
    refine bodyPost_ret (v := .agg #[.int .i64 sc, .int .i64 (wrap64 (ss + xi)), .int .i64 (wrap64 (sv + 1)), .bool ln, .int .i64 li, .string ls, .bool hn, .int .i64 hi, .string hs]) ?_ rfl ⟨?_, HP.out⟩
    ·rw [Zn.results_cell rfl]
     go_simp
    ·unfold Su.add
     simp only
     rw [if_neg (show ¬ (sv = 0 ∨ Kn.cmp ⟨xn, xi, xs⟩ ⟨ln, li, ls⟩ < 0) by rw [HXE.out]; have := HXX.out; have := H0.out; omega), if_neg (show ¬ (sv = 0 ∨ 0 < Kn.cmp ⟨xn, xi, xs⟩ ⟨hn, hi, hs⟩) by rw [HYE.out]; have := HYY.out; have := H0.out; omega)]
end Go.Proofs.Ytodeodndjkkkbaa
namespace Go.Proofs.Ytodeodndjkkkbaa.Ty
def form (n : Nat) : Nat := if n < 64 then 0 else if n < 16384 then 1 else if n < 1073741824 then 2 else 3
def after : Nat → Nat
 | 0 => 0
 | 1 => 1
 | 2 => 3
 | _ => 8
def low : Nat → Nat → List UInt8
 | 0, _ => []
 | k + 1, n => UInt8.ofNat (n / 256 ^ k % 256) :: low k n
def head (n : Nat) : UInt8 := UInt8.ofNat (64 * form n + (if form n = 3 then 0 else n / 256 ^ after (form n)))
def encU (n : Nat) : List UInt8 := head n :: low (after (form n)) n
theorem form_le (n : Nat) : form n ≤ 3 := by unfold form; (repeat' split) <;> omega
theorem form_is (n : Nat) : (n < 64 ∧ form n = 0) ∨ (¬ n < 64 ∧ n < 16384 ∧ form n = 1) ∨ (¬ n < 16384 ∧ n < 1073741824 ∧ form n = 2) ∨ (¬ n < 1073741824 ∧ form n = 3) := by
 unfold form; (repeat' split) <;> omega
theorem low_length (k n : Nat) : (low k n).length = k := by induction k with
 | zero => rfl
 | succ k ih => simp [low, ih]
theorem toNat_ofNat8 (n : Nat) (h : n < 256) : (UInt8.ofNat n).toNat = n := by simp [UInt8.toNat_ofNat']; omega
def U64 (n : Nat) : Prop := n < 2 ^ 64
theorem low_byte (n k : Nat) : ((n : Int) / 2 ^ (8 * k) % 256) = ((UInt8.ofNat (n / 256 ^ k % 256)).toNat : Int) := by
 rw [toNat_ofNat8 _ (Nat.mod_lt _ (by omega))]
 have e : (2 : Int) ^ (8 * k) = ((256 ^ k : Nat) : Int) := by
  rw [Int.pow_mul, Int.natCast_pow]; rfl
 rw [e]
 simp
theorem low_succ (n k : Nat) : low (k + 1) n = UInt8.ofNat (n / 256 ^ k % 256) :: low k n := rfl
theorem encU_split (n : Nat) : encU n = [head n] ++ low (after (form n)) n := rfl
theorem encU_length (n : Nat) : (encU n).length = 1 + after (form n) := by simp [encU, low_length]; omega
theorem after_le (n : Nat) : after (form n) ≤ 8 := by
 rcases form_is n with ⟨_, h⟩ | ⟨_, _, h⟩ | ⟨_, _, h⟩ | ⟨_, h⟩ <;> rw [h] <;> decide
def zig (n : Int) : Int := if 0 ≤ n then 2 * n else -2 * n - 1
def zag (n : Int) : Int := if n % 2 = 1 then -(n / 2) - 1 else n / 2
def I64 (n : Int) : Prop := -9223372036854775808 ≤ n ∧ n ≤ 9223372036854775807
theorem zig_nonneg (n : Int) : 0 ≤ zig n := by unfold zig; split <;> omega
theorem zig_u64 {n : Int} (h : I64 n) : U64 (zig n).toNat := by unfold zig U64; unfold I64 at h; split <;> omega
theorem zag_i64 {n : Nat} (h : U64 n) : I64 (zag n) := by unfold zag I64; unfold U64 at h; split <;> omega
theorem zag_zig (n : Int) : zag (zig n) = n := by unfold zag zig; (repeat' split) <;> omega
theorem zig_zag {n : Int} (h : 0 ≤ n) : zig (zag n) = n := by unfold zag zig; (repeat' split) <;> omega
end Go.Proofs.Ytodeodndjkkkbaa.Ty
namespace Go.Proofs.Ytodeodndjkkkbaa.Ty
def pv (l : List UInt8) : Nat → Nat
 | 0 => 0
 | 1 => (l.getD 0 0).toNat % 64
 | k + 2 => pv l (k + 1) * 256 + (l.getD (k + 1) 0).toNat
def small : Nat → Nat
 | 0 => 0
 | 1 => 64
 | 2 => 16384
 | _ => 1073741824
def num (l : List UInt8) : Nat × Nat × Nat :=
 match l with
 | [] => (0, 0, 2)
 | b :: r => if 192 < b.toNat then (0, 0, 5) else if (b :: r).length < 1 + after (b.toNat / 64) then (0, 0, 2) else
   if pv (b :: r) (1 + after (b.toNat / 64)) < small (b.toNat / 64) then (0, 0, 5) else (pv (b :: r) (1 + after (b.toNat / 64)), 1 + after (b.toNat / 64), 0)
theorem pv_succ (l : List UInt8) (k : Nat) (hk : 1 ≤ k) : pv l (k + 1) = pv l k * 256 + (l.getD k 0).toNat := by
 match k, hk with
 | k + 1, _ => rfl
theorem pv_lt (l : List UInt8) : ∀ k, pv l (k + 1) < 64 * 256 ^ k
 | 0 => by simp [pv]; omega
 | k + 1 => by
   have := pv_lt l k
   have h2 := (l.getD (k + 1) 0).toNat_lt
   rw [pv_succ l (k + 1) (by omega), Nat.pow_succ]
   omega
theorem pv_lt9 (l : List UInt8) (h : (l.getD 0 0).toNat % 64 = 0) : ∀ k, pv l (k + 1) < 256 ^ k
 | 0 => by simp [pv]; simpa using h
 | k + 1 => by
   have := pv_lt9 l h k
   have h2 := (l.getD (k + 1) 0).toNat_lt
   rw [pv_succ l (k + 1) (by omega), Nat.pow_succ]
   omega
def txt (l : List UInt8) (most : Int) : List UInt8 × Nat × Nat :=
 if (num l).2.2 ≠ 0 then ([], 0, (num l).2.2) else if most < 0 ∨ most < ((num l).1 : Int) then ([], 0, 3) else
  if l.length - (num l).2.1 < (num l).1 then ([], 0, 2) else ((l.drop (num l).2.1).take (num l).1, (num l).2.1 + (num l).1, 0)
theorem num_is (l : List UInt8) (h : 0 < l.length) : num l = if 192 < (l.getD 0 0).toNat then (0, 0, 5) else if l.length < 1 + after ((l.getD 0 0).toNat / 64) then (0, 0, 2) else
 if pv l (1 + after ((l.getD 0 0).toNat / 64)) < small ((l.getD 0 0).toNat / 64) then (0, 0, 5) else (pv l (1 + after ((l.getD 0 0).toNat / 64)), 1 + after ((l.getD 0 0).toNat / 64), 0) := by
 cases l with
 | nil => simp at h
 | cons b r => rfl
theorem num_high {l : List UInt8} (h : 0 < l.length) (hb : 192 < (l.getD 0 0).toNat) : num l = (0, 0, 5) := by rw [num_is l h, if_pos hb]
theorem num_cut {l : List UInt8} (h : 0 < l.length) (hb : ¬ 192 < (l.getD 0 0).toNat) {f : Nat} (hf : (l.getD 0 0).toNat / 64 = f) (hl : l.length < 1 + after f) : num l = (0, 0, 2) := by rw [num_is l h, if_neg hb, hf, if_pos hl]
theorem num_less {l : List UInt8} (h : 0 < l.length) (hb : ¬ 192 < (l.getD 0 0).toNat) {f : Nat} (hf : (l.getD 0 0).toNat / 64 = f) (hl : ¬ l.length < 1 + after f) (hp : pv l (1 + after f) < small f) : num l = (0, 0, 5) := by rw [num_is l h, if_neg hb, hf, if_neg hl, if_pos hp]
theorem num_whole {l : List UInt8} (h : 0 < l.length) (hb : ¬ 192 < (l.getD 0 0).toNat) {f : Nat} (hf : (l.getD 0 0).toNat / 64 = f) (hl : ¬ l.length < 1 + after f) (hp : ¬ pv l (1 + after f) < small f) : num l = (pv l (1 + after f), 1 + after f, 0) := by rw [num_is l h, if_neg hb, hf, if_neg hl, if_neg hp]
theorem num_cases (l : List UInt8) : (num l).2.2 = 0 ∧ l ≠ [] ∧ (∃ f, f ≤ 3 ∧ 64 * f ≤ (l.getD 0 0).toNat ∧ (l.getD 0 0).toNat < 64 * f + 64 ∧ (l.getD 0 0).toNat ≤ 192 ∧ num l = (pv l (1 + after f), 1 + after f, 0) ∧ 1 + after f ≤ l.length ∧ small f ≤ pv l (1 + after f)) ∨
 ((num l).2.2 = 2 ∨ (num l).2.2 = 5) ∧ (num l).1 = 0 ∧ (num l).2.1 = 0 := by
 by_cases h0 : 0 < l.length
 ·by_cases h1 : 192 < (l.getD 0 0).toNat
  ·right; rw [num_high h0 h1]; simp
  ·obtain ⟨f, hf⟩ : ∃ f, (l.getD 0 0).toNat / 64 = f := ⟨_, rfl⟩
   by_cases h2 : l.length < 1 + after f
   ·right; rw [num_cut h0 h1 hf h2]; simp
   ·by_cases h3 : pv l (1 + after f) < small f
    ·right; rw [num_less h0 h1 hf h2 h3]; simp
    ·left
     have e := num_whole h0 h1 hf h2 h3
     exact ⟨by rw [e], by intro e; subst e; simp at h0, f, by omega, by omega, by omega, by omega, e, by omega, by omega⟩
 ·right
  have : l = [] := List.eq_nil_of_length_eq_zero (by omega)
  subst this
  simp [num]
theorem num_u64 (l : List UInt8) : U64 (num l).1 := by
 rcases num_cases l with ⟨_, _, f, hf, h1, h2, h3, e, _, _⟩ | ⟨_, h, _⟩
 ·rw [e]
  unfold U64
  rcases (by omega : f = 0 ∨ f = 1 ∨ f = 2 ∨ f = 3) with rfl | rfl | rfl | rfl
  ·have := pv_lt l 0; show pv l (0 + 1) < 2 ^ 64; omega
  ·have := pv_lt l 1; show pv l (1 + 1) < 2 ^ 64; omega
  ·have := pv_lt l 3; show pv l (3 + 1) < 2 ^ 64; omega
  ·have := pv_lt9 l (by omega) 8; show pv l (8 + 1) < 2 ^ 64; omega
 ·rw [h]; unfold U64; omega
theorem txt_bad {l : List UInt8} {most : Int} (h : (num l).2.2 ≠ 0) : txt l most = ([], 0, (num l).2.2) := by unfold txt; rw [if_pos h]
theorem txt_long {l : List UInt8} {most : Int} (h : (num l).2.2 = 0) (h2 : most < 0 ∨ most < ((num l).1 : Int)) : txt l most = ([], 0, 3) := by unfold txt; rw [if_neg (by omega), if_pos h2]
theorem txt_short {l : List UInt8} {most : Int} (h : (num l).2.2 = 0) (h2 : ¬ (most < 0 ∨ most < ((num l).1 : Int))) (h3 : l.length - (num l).2.1 < (num l).1) : txt l most = ([], 0, 2) := by unfold txt; rw [if_neg (by omega), if_neg h2, if_pos h3]
theorem txt_whole {l : List UInt8} {most : Int} (h : (num l).2.2 = 0) (h2 : ¬ (most < 0 ∨ most < ((num l).1 : Int))) (h3 : ¬ l.length - (num l).2.1 < (num l).1) : txt l most = ((l.drop (num l).2.1).take (num l).1, (num l).2.1 + (num l).1, 0) := by unfold txt; rw [if_neg (by omega), if_neg h2, if_neg h3]
end Go.Proofs.Ytodeodndjkkkbaa.Ty
namespace Go.Proofs.Ytodeodndjkkkbaa.Ty
theorem head_is (n : Nat) : (head n).toNat = 64 * form n + (if form n = 3 then 0 else n / 256 ^ after (form n)) ∧ (form n ≠ 3 → n / 256 ^ after (form n) < 64) := by
 rcases form_is n with ⟨h1, h⟩ | ⟨_, h1, h⟩ | ⟨_, h1, h⟩ | ⟨_, h⟩
 ·have e : n / 256 ^ 0 = n := by simp
  refine ⟨?_, fun _ => by rw [h]; show n / 256 ^ 0 < 64; omega⟩
  unfold head
  rw [h, toNat_ofNat8 _ (by rw [if_neg (by omega)]; show 64 * 0 + n / 256 ^ 0 < 256; omega)]
 ·have e : (256 : Nat) ^ 1 = 256 := by decide
  refine ⟨?_, fun _ => by rw [h]; show n / 256 ^ 1 < 64; omega⟩
  unfold head
  rw [h, toNat_ofNat8 _ (by rw [if_neg (by omega)]; show 64 * 1 + n / 256 ^ 1 < 256; omega)]
 ·have e : (256 : Nat) ^ 3 = 16777216 := by decide
  refine ⟨?_, fun _ => by rw [h]; show n / 256 ^ 3 < 64; omega⟩
  unfold head
  rw [h, toNat_ofNat8 _ (by rw [if_neg (by omega)]; show 64 * 2 + n / 256 ^ 3 < 256; omega)]
 ·refine ⟨?_, fun hh => absurd h hh⟩
  unfold head
  rw [h, toNat_ofNat8 _ (by rw [if_pos rfl]; omega)]
end Go.Proofs.Ytodeodndjkkkbaa.Ty
