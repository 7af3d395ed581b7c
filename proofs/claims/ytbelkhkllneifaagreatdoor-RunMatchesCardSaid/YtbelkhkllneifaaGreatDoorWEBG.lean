import Derived.Test.YtbelkhkllneifaaGreatDoorWEAJ
import Derived.Deep.Slices
import Derived.Deep.Fields
import Derived.ChangeSame
import Derived.ProofKit
import Derived.OpenShut
import Derived.SizedLaws
import Derived.Test.YtbelkhkllneifaaGreatDoorWEBF
import Derived.Test.YtbelkhkllneifaaGreatDoorWEAD
import Derived.Test.YtbelkhkllneifaaGreatDoorWEAI
import Derived.Test.YtbelkhkllneifaaGreatDoorWEAK
import Derived.Test.YtbelkhkllneifaaGreatDoorRows
import Derived.Below
import Derived.Carry
namespace Go.Proofs.YtbelkhkllneifaaGreatDoor
open Go.RowKit Go.ChangeShapes Go.WideShapes Go.ChangeAt Go.Deep
section
variable {H : Type} {enc : TypeId × Value → H} {W : World}
def Kn.rd (x : Kn.V) : DataW H := .agg [.lit (.bool x.null), .lit (.int .i64 x.n), .lit (.string x.s.data.toList)]
set_option maxRecDepth 100000 in
theorem Kn.open_cells {fuel : Nat} {cs : List Value} {z : DataW H × List MemPlace} (h : DataW.trod enc Tryz.prog W 0 (fun _ => true) true fuel 33 cs = some z) :
 ∃ x : Kn.V, cs = [.bool x.null, .int .i64 x.n, .string x.s] ∧ z.1 = Kn.rd x := by
 obtain ⟨xs, f', _, hx, hcl, hxl, hg⟩ := DataW.trod_struct Tryz.underlying33 h
 have hC : Tryz.prog.cellsOf 33 = 3 := by kernel_rfl
 have i3 : Tryz.prog.cellsOf 4 = 1 := by kernel_rfl
 have i2 : Tryz.prog.cellsOf 2 = 1 := by kernel_rfl
 have i9 : Tryz.prog.cellsOf 9 = 1 := by kernel_rfl
 rw [hC] at hcl
 match cs, hcl, xs, hxl with
 | [c0, c1, c2], _, [y0, y1, y2], _ =>
   have g0 : DataW.trod enc Tryz.prog W 0 (fun _ => true) true f' 4 ((List.drop 0 [c0, c1, c2]).take (Tryz.prog.cellsOf 4)) = some y0 := hg 0 _ rfl
   have g1 : DataW.trod enc Tryz.prog W 0 (fun _ => true) true f' 2 ((List.drop 1 [c0, c1, c2]).take (Tryz.prog.cellsOf 2)) = some y1 := hg 1 _ rfl
   have g2 : DataW.trod enc Tryz.prog W 0 (fun _ => true) true f' 9 ((List.drop 2 [c0, c1, c2]).take (Tryz.prog.cellsOf 9)) = some y2 := hg 2 _ rfl
   rw [i3] at g0
   rw [i2] at g1
   rw [i9] at g2
   obtain ⟨k, e0, r0⟩ := DataW.trod_bool Tryz.underlying4 (show DataW.trod enc Tryz.prog W 0 (fun _ => true) true f' 4 [c0] = some y0 from g0)
   obtain ⟨n, e1, r1, w1⟩ := DataW.trod_int Tryz.underlying2 (show DataW.trod enc Tryz.prog W 0 (fun _ => true) true f' 2 [c1] = some y1 from g1)
   obtain ⟨s, e2, r2, _⟩ := DataW.trod_string Tryz.underlying9 (show DataW.trod enc Tryz.prog W 0 (fun _ => true) true f' 9 [c2] = some y2 from g2)
   simp only [List.cons.injEq, and_true] at e0 e1 e2
   subst e0 e1 e2 r0 r1 r2
   exact ⟨⟨k, n, s⟩, rfl, by rw [hx]; rfl⟩
set_option maxRecDepth 100000 in
theorem Kn.open_col_cells {fuel : Nat} {cs : List Value} {z : DataW H × List MemPlace} (h : DataW.trod enc Tryz.prog W 0 (fun _ => true) true fuel 76 cs = some z) :
 ∃ x : Kn.C, cs = [.int .i64 x.k, .bool x.null] := by
 obtain ⟨xs, f', _, hx, hcl, hxl, hg⟩ := DataW.trod_struct Tryz.underlying76 h
 have hC : Tryz.prog.cellsOf 76 = 2 := by kernel_rfl
 have i3 : Tryz.prog.cellsOf 4 = 1 := by kernel_rfl
 have i2 : Tryz.prog.cellsOf 74 = 1 := by kernel_rfl
 rw [hC] at hcl
 match cs, hcl, xs, hxl with
 | [c0, c1], _, [y0, y1], _ =>
   have g0 : DataW.trod enc Tryz.prog W 0 (fun _ => true) true f' 74 ((List.drop 0 [c0, c1]).take (Tryz.prog.cellsOf 74)) = some y0 := hg 0 _ rfl
   have g1 : DataW.trod enc Tryz.prog W 0 (fun _ => true) true f' 4 ((List.drop 1 [c0, c1]).take (Tryz.prog.cellsOf 4)) = some y1 := hg 1 _ rfl
   rw [i2] at g0
   rw [i3] at g1
   obtain ⟨n, e0, _⟩ := DataW.trod_int Tryz.underlying74 (show DataW.trod enc Tryz.prog W 0 (fun _ => true) true f' 74 [c0] = some y0 from g0)
   obtain ⟨k, e1, _⟩ := DataW.trod_bool Tryz.underlying4 (show DataW.trod enc Tryz.prog W 0 (fun _ => true) true f' 4 [c1] = some y1 from g1)
   simp only [List.cons.injEq, and_true] at e0 e1
   subst e0 e1
   exact ⟨⟨n, k⟩, rfl⟩
set_option maxRecDepth 100000 in
theorem Kn.open_cols {a0 : Option Addr} {len cap : Nat} {d : DataW H} {ps : List MemPlace} (h : DataW.Trod enc Tryz.prog W 0 (fun _ => true) true 22 (.slice a0 len cap) d ps) :
 ∃ l : List Kn.C, Kn.Cols W (.slice a0 len cap) l := by
 obtain ⟨fuel, hf⟩ := h
 have hC : Tryz.prog.cellsOf 76 = 2 := by kernel_rfl
 rcases open_slice Tryz.underlying22 hf with ⟨hcs, hx⟩ | ⟨a, len', cap', m, n, D, Pl, hcs, _, hl, hm, hmm, hx, hi⟩
 ·have hv : Value.slice a0 len cap = .slice none 0 0 := by simpa [Value.cells] using hcs
  exact ⟨[], ⟨none, 0, hv, .inl rfl⟩⟩
 ·have hv : Value.slice a0 len cap = .slice (some a) len' cap' := by simpa [Value.cells] using hcs
  simp only [Value.slice.injEq] at hv
  obtain ⟨rfl, rfl, rfl⟩ := hv
  simp only [if_true] at hmm
  by_cases hz : len = 0
  ·subst hz
   exact ⟨[], ⟨some a, cap, rfl, .inl rfl⟩⟩
  ·rw [hC] at hi
   have hone : ∀ i, i < len → ∃ x : Kn.C, W.cell? (a.add (i * 2)) = some (.int .i64 x.k) ∧ W.cell? (a.add (i * 2 + 1)) = some (.bool x.null) := fun i hil => by
    obtain ⟨cs', hc, ht⟩ := hi i (by omega)
    obtain ⟨x, rfl⟩ := Kn.open_col_cells ht
    obtain ⟨_, _, hat⟩ := World.cells?_some hc
    have a0 := hat 0 (by omega)
    have a1 := hat 1 (by omega)
    rw [add_add] at a0 a1
    exact ⟨x, a0, a1⟩
   obtain ⟨b, off, spot⟩ := a
   have hspot : spot = none := by
    obtain ⟨x, h0, _⟩ := hone 0 (by omega)
    simpa [Addr.add] using World.cell?_spot h0
   subst hspot
   have hlt : b < W.heap.size := by
    obtain ⟨x, h0, _⟩ := hone 0 (by omega)
    have := World.block_lt_of_cell? W _ h0
    simpa [Addr.add] using this
   have hch : ∃ f : Nat → Kn.C, ∀ i, i < len → W.cell? ⟨b, off + i * 2, none⟩ = some (.int .i64 (f i).k) ∧ W.cell? ⟨b, off + i * 2 + 1, none⟩ = some (.bool (f i).null) := by
    have hone' : ∀ i, i < len → ∃ x : Kn.C, W.cell? ⟨b, off + i * 2, none⟩ = some (.int .i64 x.k) ∧ W.cell? ⟨b, off + i * 2 + 1, none⟩ = some (.bool x.null) := fun i hil => by
     obtain ⟨x, h0, h1⟩ := hone i hil
     rw [add_plain] at h0 h1
     rw [← Nat.add_assoc] at h1
     exact ⟨x, h0, h1⟩
    refine ⟨fun i => if hil : i < len then (hone' i hil).choose else ⟨0, false⟩, fun i hil => ?_⟩
    have hs := (hone' i hil).choose_spec
    simp only [dif_pos hil]
    exact hs
   obtain ⟨f, hf'⟩ := hch
   refine ⟨(List.range len).map f, ⟨some ⟨b, off, none⟩, cap, by simp, .inr ⟨b, off, rfl, hlt, by unfold maxLen at hm; simp; omega, fun i x hix => ?_⟩⟩⟩
   rw [List.getElem?_map, Option.map_eq_some_iff] at hix
   obtain ⟨i', hi', rfl⟩ := hix
   obtain ⟨hil, rfl⟩ := List.getElem?_eq_some_iff.1 hi'
   rw [List.getElem_range]
   rw [List.length_range] at hil
   exact hf' i hil
end
end Go.Proofs.YtbelkhkllneifaaGreatDoor
namespace Go.Proofs.YtbelkhkllneifaaGreatDoor
open Go.RowKit Go.ChangeShapes Go.WideShapes Go.ChangeAt Go.Deep
section
variable {H : Type} {enc : TypeId × Value → H} {W : World}
set_option maxRecDepth 100000 in
theorem Rn.range_cells {fuel : Nat} {cs : List Value} {z : DataW H × List MemPlace} (hf : DataW.trod enc Tryz.prog W 0 (fun _ => true) true fuel 43 cs = some z) :
 ∃ x : Kn.R, cs = [.bool x.from_, .bool x.til, .bool x.lo.null, .int .i64 x.lo.n, .string x.lo.s, .bool x.hi.null, .int .i64 x.hi.n, .string x.hi.s] ∧ z.1 = .agg [.lit (.bool x.from_), .lit (.bool x.til), Kn.rd x.lo, Kn.rd x.hi] := by
 obtain ⟨xs, f', _, hx, hcl, hxl, hg⟩ := DataW.trod_struct Tryz.underlying43 hf
 have hC : Tryz.prog.cellsOf 43 = 8 := by kernel_rfl
 have i3 : Tryz.prog.cellsOf 4 = 1 := by kernel_rfl
 have iv : Tryz.prog.cellsOf 33 = 3 := by kernel_rfl
 rw [hC] at hcl
 match cs, hcl, xs, hxl with
 | [c0, c1, c2, c3, c4, c5, c6, c7], _, [y0, y1, y2, y3], _ =>
   have g0 : DataW.trod enc Tryz.prog W 0 (fun _ => true) true f' 4 ((List.drop 0 [c0, c1, c2, c3, c4, c5, c6, c7]).take (Tryz.prog.cellsOf 4)) = some y0 := hg 0 _ rfl
   have g1 : DataW.trod enc Tryz.prog W 0 (fun _ => true) true f' 4 ((List.drop 1 [c0, c1, c2, c3, c4, c5, c6, c7]).take (Tryz.prog.cellsOf 4)) = some y1 := hg 1 _ rfl
   have g2 : DataW.trod enc Tryz.prog W 0 (fun _ => true) true f' 33 ((List.drop 2 [c0, c1, c2, c3, c4, c5, c6, c7]).take (Tryz.prog.cellsOf 33)) = some y2 := hg 2 _ rfl
   have g3 : DataW.trod enc Tryz.prog W 0 (fun _ => true) true f' 33 ((List.drop 5 [c0, c1, c2, c3, c4, c5, c6, c7]).take (Tryz.prog.cellsOf 33)) = some y3 := hg 3 _ rfl
   rw [i3] at g0 g1
   rw [iv] at g2 g3
   obtain ⟨k, e0, r0⟩ := DataW.trod_bool Tryz.underlying4 (show DataW.trod enc Tryz.prog W 0 (fun _ => true) true f' 4 [c0] = some y0 from g0)
   obtain ⟨k1, e1, r1⟩ := DataW.trod_bool Tryz.underlying4 (show DataW.trod enc Tryz.prog W 0 (fun _ => true) true f' 4 [c1] = some y1 from g1)
   obtain ⟨lo, e2, r2⟩ := Kn.open_cells (show DataW.trod enc Tryz.prog W 0 (fun _ => true) true f' 33 [c2, c3, c4] = some y2 from g2)
   obtain ⟨hi, e3, r3⟩ := Kn.open_cells (show DataW.trod enc Tryz.prog W 0 (fun _ => true) true f' 33 [c5, c6, c7] = some y3 from g3)
   simp only [List.cons.injEq, and_true] at e0 e1 e2 e3
   obtain ⟨rfl, rfl, rfl⟩ := e2
   obtain ⟨rfl, rfl, rfl⟩ := e3
   subst e0 e1 r0 r1
   refine ⟨⟨k, k1, lo, hi⟩, rfl, ?_⟩
   rw [hx]
   simp only [List.map_cons, List.map_nil, r2, r3]
set_option maxRecDepth 100000 in
theorem Rn.ask_cells {fuel : Nat} {cs : List Value} {z : DataW H × List MemPlace} (hf : DataW.trod enc Tryz.prog W 0 (fun _ => true) true fuel 54 cs = some z) :
 ∃ x : Zn.As, cs = [.int .i64 x.op, .int .i64 x.col, .bool x.v.null, .int .i64 x.v.n, .string x.v.s] ∧ z.1 = .agg [.lit (.int .i64 x.op), .lit (.int .i64 x.col), Kn.rd x.v] := by
 obtain ⟨xs, f', _, hx, hcl, hxl, hg⟩ := DataW.trod_struct Tryz.underlying54 hf
 have hC : Tryz.prog.cellsOf 54 = 5 := by kernel_rfl
 have i3 : Tryz.prog.cellsOf 3 = 1 := by kernel_rfl
 have iv : Tryz.prog.cellsOf 33 = 3 := by kernel_rfl
 rw [hC] at hcl
 match cs, hcl, xs, hxl with
 | [c0, c1, c2, c3, c4], _, [y0, y1, y2], _ =>
   have g0 : DataW.trod enc Tryz.prog W 0 (fun _ => true) true f' 3 ((List.drop 0 [c0, c1, c2, c3, c4]).take (Tryz.prog.cellsOf 3)) = some y0 := hg 0 _ rfl
   have g1 : DataW.trod enc Tryz.prog W 0 (fun _ => true) true f' 3 ((List.drop 1 [c0, c1, c2, c3, c4]).take (Tryz.prog.cellsOf 3)) = some y1 := hg 1 _ rfl
   have g2 : DataW.trod enc Tryz.prog W 0 (fun _ => true) true f' 33 ((List.drop 2 [c0, c1, c2, c3, c4]).take (Tryz.prog.cellsOf 33)) = some y2 := hg 2 _ rfl
   rw [i3] at g0 g1
   rw [iv] at g2
   obtain ⟨k, e0, r0, _⟩ := DataW.trod_int Tryz.underlying3 (show DataW.trod enc Tryz.prog W 0 (fun _ => true) true f' 3 [c0] = some y0 from g0)
   obtain ⟨k1, e1, r1, _⟩ := DataW.trod_int Tryz.underlying3 (show DataW.trod enc Tryz.prog W 0 (fun _ => true) true f' 3 [c1] = some y1 from g1)
   obtain ⟨lo, e2, r2⟩ := Kn.open_cells (show DataW.trod enc Tryz.prog W 0 (fun _ => true) true f' 33 [c2, c3, c4] = some y2 from g2)
   simp only [List.cons.injEq, and_true] at e0 e1 e2
   obtain ⟨rfl, rfl, rfl⟩ := e2
   subst e0 e1 r0 r1
   refine ⟨⟨k, k1, lo⟩, rfl, ?_⟩
   rw [hx]
   simp only [List.map_cons, List.map_nil, r2]
set_option maxRecDepth 100000 in
theorem Rn.open_step {v : Value} {d : DataW H} {ps : List MemPlace} {r : Reach} {b0 : Nat} (hv : Value.okWide Tryz.prog W r b0 57 v) (h : DataW.Trod enc Tryz.prog W 0 (fun _ => true) true 57 v d ps) :
 ∃ (c0 c1 : Value) (x : Kn.R) (a : Zn.As) (c15 c16 c17 : Value) (d0 d1 d4 d5 d6 : DataW H), v = .agg (Rn.qs c0 c1 x a c15 c16 c17) ∧ d = .agg [d0, d1, .agg [.lit (.bool x.from_), .lit (.bool x.til), Kn.rd x.lo, Kn.rd x.hi], .agg [.lit (.int .i64 a.op), .lit (.int .i64 a.col), Kn.rd a.v], d4, d5, d6] := by
 obtain ⟨cs0, rfl, hcsz⟩ := okWide_struct Tryz.underlying57 hv
 obtain ⟨fuel, hf⟩ := h
 have hf : DataW.trod enc Tryz.prog W 0 (fun _ => true) true fuel 57 cs0.toList = some (d, ps) := hf
 generalize hcs : cs0.toList = cs at hf
 obtain ⟨xs, f', _, hx, hcl, hxl, hg⟩ := DataW.trod_struct Tryz.underlying57 hf
 have hC : Tryz.prog.cellsOf 57 = 18 := by kernel_rfl
 have iR : Tryz.prog.cellsOf 43 = 8 := by kernel_rfl
 have iA : Tryz.prog.cellsOf 54 = 5 := by kernel_rfl
 rw [hC] at hcl
 match cs, hcl, xs, hxl with
 | [c0, c1, c2, c3, c4, c5, c6, c7, c8, c9, c10, c11, c12, c13, c14, c15, c16, c17], _, [y0, y1, y2, y3, y4, y5, y6], _ =>
   have g2 : DataW.trod enc Tryz.prog W 0 (fun _ => true) true f' 43 ((List.drop 2 [c0, c1, c2, c3, c4, c5, c6, c7, c8, c9, c10, c11, c12, c13, c14, c15, c16, c17]).take (Tryz.prog.cellsOf 43)) = some y2 := hg 2 _ rfl
   have g3 : DataW.trod enc Tryz.prog W 0 (fun _ => true) true f' 54 ((List.drop 10 [c0, c1, c2, c3, c4, c5, c6, c7, c8, c9, c10, c11, c12, c13, c14, c15, c16, c17]).take (Tryz.prog.cellsOf 54)) = some y3 := hg 3 _ rfl
   rw [iR] at g2
   rw [iA] at g3
   obtain ⟨x, e2, r2⟩ := Rn.range_cells (show DataW.trod enc Tryz.prog W 0 (fun _ => true) true f' 43 [c2, c3, c4, c5, c6, c7, c8, c9] = some y2 from g2)
   obtain ⟨a, e3, r3⟩ := Rn.ask_cells (show DataW.trod enc Tryz.prog W 0 (fun _ => true) true f' 54 [c10, c11, c12, c13, c14] = some y3 from g3)
   simp only [List.cons.injEq, and_true] at e2 e3
   obtain ⟨rfl, rfl, rfl, rfl, rfl, rfl, rfl, rfl⟩ := e2
   obtain ⟨rfl, rfl, rfl, rfl, rfl⟩ := e3
   refine ⟨c0, c1, x, a, c15, c16, c17, y0.1, y1.1, y4.1, y5.1, y6.1, ?_, ?_⟩
   ·unfold Rn.qs
    rw [← Array.toArray_toList (xs := cs0), hcs]
   ·simp only [Prod.mk.injEq] at hx
    rw [hx.1]
    simp only [List.map_cons, List.map_nil, r2, r3]
theorem Rn.w_val (y : Kn.V) : DataW.weights Tryz.prog 33 (DataW.agg (H := H) [.lit (.bool y.null), .lit (.int .i64 y.n), .lit (.string y.s.data.toList)]) = [y.s.size] := by
 simp only [DataW.weights, Tryz.underlying33]
 show DataW.weightsEach Tryz.prog [4, 2, 9] [.lit (.bool y.null), .lit (.int .i64 y.n), .lit (.string y.s.data.toList)] = _
 simp [DataW.weightsEach, DataW.weights]
set_option maxRecDepth 100000 in
theorem Rn.w_range (x : Kn.R) {n : Nat} (hn : n = x.lo.s.size ∨ n = x.hi.s.size) : n ∈ DataW.weights Tryz.prog 43 (DataW.agg (H := H) [.lit (.bool x.from_), .lit (.bool x.til), Kn.rd x.lo, Kn.rd x.hi]) := by
 unfold Kn.rd
 simp only [DataW.weights, Tryz.underlying43]
 show n ∈ DataW.weightsEach Tryz.prog [4, 4, 33, 33] [.lit (.bool x.from_), .lit (.bool x.til), .agg [.lit (.bool x.lo.null), .lit (.int .i64 x.lo.n), .lit (.string x.lo.s.data.toList)], .agg [.lit (.bool x.hi.null), .lit (.int .i64 x.hi.n), .lit (.string x.hi.s.data.toList)]]
 simp only [DataW.weightsEach, Rn.w_val]
 simp [DataW.weights, hn]
set_option maxRecDepth 100000 in
theorem Rn.w_ask (x : Zn.As) : x.v.s.size ∈ DataW.weights Tryz.prog 54 (DataW.agg (H := H) [.lit (.int .i64 x.op), .lit (.int .i64 x.col), Kn.rd x.v]) := by
 unfold Kn.rd
 simp only [DataW.weights, Tryz.underlying54]
 show x.v.s.size ∈ DataW.weightsEach Tryz.prog [3, 3, 33] [.lit (.int .i64 x.op), .lit (.int .i64 x.col), .agg [.lit (.bool x.v.null), .lit (.int .i64 x.v.n), .lit (.string x.v.s.data.toList)]]
 simp only [DataW.weightsEach, Rn.w_val]
 simp [DataW.weights]
set_option maxRecDepth 100000 in
theorem Rn.z_step {ts : List TypeId} {ds : List (DataW H)} (h : (DataW.weightsEach Tryz.prog ts ds).all (· ≤ reachBytes) = true) {j : Nat} {x : Kn.R} {a : Zn.As} {d0 d1 d4 d5 d6 : DataW H} (ht : ts[j]? = some 57) (hd : ds[j]? = some (.agg [d0, d1, .agg [.lit (.bool x.from_), .lit (.bool x.til), Kn.rd x.lo, Kn.rd x.hi], .agg [.lit (.int .i64 a.op), .lit (.int .i64 a.col), Kn.rd a.v], d4, d5, d6])) :
 Kn.Z x.lo ∧ Kn.Z x.hi ∧ Kn.Z a.v := by
 have hm : ∀ n, (n = x.lo.s.size ∨ n = x.hi.s.size) ∨ n = a.v.s.size → n ≤ reachBytes := fun n hn => by
  have := List.all_eq_true.1 h n (DataW.weights_mem_each ht hd _ (by
   rw [DataW.weights]
   simp only [Tryz.underlying57]
   show n ∈ DataW.weightsEach Tryz.prog [3, 39, 43, 54, 55, 3, 55] [d0, d1, .agg [.lit (.bool x.from_), .lit (.bool x.til), Kn.rd x.lo, Kn.rd x.hi], .agg [.lit (.int .i64 a.op), .lit (.int .i64 a.col), Kn.rd a.v], d4, d5, d6]
   simp only [DataW.weightsEach, List.mem_append]
   rcases hn with hn | rfl
   ·exact .inr (.inr (.inl (Rn.w_range x hn)))
   ·exact .inr (.inr (.inr (.inl (Rn.w_ask a))))))
  exact of_decide_eq_true this
 have h1 := hm _ (.inl (.inl rfl))
 have h2 := hm _ (.inl (.inr rfl))
 have h3 := hm _ (.inr rfl)
 unfold reachBytes at h1 h2 h3
 unfold Kn.Z
 exact ⟨by omega, by omega, by omega⟩
end
end Go.Proofs.YtbelkhkllneifaaGreatDoor
namespace Go.Proofs.YtbelkhkllneifaaGreatDoor
open Go.RowKit Go.ChangeShapes Go.WideShapes Go.ChangeAt Go.Deep
section
variable {H : Type} {enc : TypeId × Value → H} {W : World}
set_option maxRecDepth 100000 in
theorem Cl.open_cells {fuel : Nat} {cs : List Value} {z : DataW H × List MemPlace} (h : DataW.trod enc Tryz.prog W 0 (fun _ => true) true fuel 33 cs = some z) :
 ∃ x : Kn.V, cs = [.bool x.null, .int .i64 x.n, .string x.s] ∧ Ty.I64 x.n := by
 obtain ⟨xs, f', _, hx, hcl, hxl, hg⟩ := DataW.trod_struct Tryz.underlying33 h
 have hC : Tryz.prog.cellsOf 33 = 3 := by kernel_rfl
 have i3 : Tryz.prog.cellsOf 4 = 1 := by kernel_rfl
 have i2 : Tryz.prog.cellsOf 2 = 1 := by kernel_rfl
 have i9 : Tryz.prog.cellsOf 9 = 1 := by kernel_rfl
 rw [hC] at hcl
 match cs, hcl, xs, hxl with
 | [c0, c1, c2], _, [y0, y1, y2], _ =>
   have g0 : DataW.trod enc Tryz.prog W 0 (fun _ => true) true f' 4 ((List.drop 0 [c0, c1, c2]).take (Tryz.prog.cellsOf 4)) = some y0 := hg 0 _ rfl
   have g1 : DataW.trod enc Tryz.prog W 0 (fun _ => true) true f' 2 ((List.drop 1 [c0, c1, c2]).take (Tryz.prog.cellsOf 2)) = some y1 := hg 1 _ rfl
   have g2 : DataW.trod enc Tryz.prog W 0 (fun _ => true) true f' 9 ((List.drop 2 [c0, c1, c2]).take (Tryz.prog.cellsOf 9)) = some y2 := hg 2 _ rfl
   rw [i3] at g0
   rw [i2] at g1
   rw [i9] at g2
   obtain ⟨k, e0, r0⟩ := DataW.trod_bool Tryz.underlying4 (show DataW.trod enc Tryz.prog W 0 (fun _ => true) true f' 4 [c0] = some y0 from g0)
   obtain ⟨n, e1, r1, w1⟩ := DataW.trod_int Tryz.underlying2 (show DataW.trod enc Tryz.prog W 0 (fun _ => true) true f' 2 [c1] = some y1 from g1)
   obtain ⟨s, e2, r2, _⟩ := DataW.trod_string Tryz.underlying9 (show DataW.trod enc Tryz.prog W 0 (fun _ => true) true f' 9 [c2] = some y2 from g2)
   simp only [List.cons.injEq, and_true] at e0 e1 e2
   subst e0 e1 e2 r0 r1 r2
   exact ⟨⟨k, n, s⟩, rfl, bounds_i64 w1⟩
end
end Go.Proofs.YtbelkhkllneifaaGreatDoor
namespace Go.Proofs.YtbelkhkllneifaaGreatDoor
open Go.RowKit Go.ChangeShapes Go.WideShapes Go.ChangeAt Go.Deep
section
variable {H : Type} {enc : TypeId × Value → H} {W : World}
set_option maxRecDepth 100000 in
theorem Dd.cap_cols {a0 : Option Addr} {len cap : Nat} {d : DataW H} {ps : List MemPlace} (h : DataW.Trod enc Tryz.prog W 0 (fun _ => true) true 22 (.slice a0 len cap) d ps) : len ≤ cap := by
 obtain ⟨fuel, hf⟩ := h
 rcases open_slice Tryz.underlying22 hf with ⟨hcs, hx⟩ | ⟨a, len', cap', m, n, D, Pl, hcs, _, hl, hm, hmm, hx, hi⟩
 ·have hv : Value.slice a0 len cap = .slice none 0 0 := by simpa [Value.cells] using hcs
  simp only [Value.slice.injEq] at hv
  omega
 ·have hv : Value.slice a0 len cap = .slice (some a) len' cap' := by simpa [Value.cells] using hcs
  simp only [Value.slice.injEq] at hv
  omega
end
end Go.Proofs.YtbelkhkllneifaaGreatDoor
namespace Go.Proofs.YtbelkhkllneifaaGreatDoor
open Go.RowKit Go.ChangeShapes Go.WideShapes Go.ChangeAt Go.Deep
def Bk.In (x : Kn.V) : Prop := Kn.Z x ∧ Ty.I64 x.n
section
variable {H : Type} {enc : TypeId × Value → H} {W : World}
theorem Bk.wa {P : Program} {e : TypeId} {d : DataW H} {n : Nat} : ∀ {l : List (DataW H)}, d ∈ l → n ∈ d.weights P e → n ∈ DataW.weightsAll P e l
 | x :: l, hd, hn => by
   rw [DataW.weightsAll, List.mem_append]
   rcases List.mem_cons.1 hd with rfl | hd
   ·exact .inl hn
   ·exact .inr (Bk.wa hd hn)
set_option maxRecDepth 100000 in
theorem Bk.open_row {fuel : Nat} {c1 : Value} {z : DataW H × List MemPlace} (h : DataW.trod enc Tryz.prog W 0 (fun _ => true) true fuel 39 [c1] = some z)
 (hs : ∀ n ∈ z.1.weights Tryz.prog 39, n ≤ reachBytes) : ∃ l : List Kn.V, Kn.Vals W c1 l ∧ ∀ x ∈ l, Bk.In x := by
 have hC : Tryz.prog.cellsOf 33 = 3 := by kernel_rfl
 have hB : Tryz.prog.bytesOf 33 = 32 := by kernel_rfl
 rcases open_slice Tryz.underlying39 h with ⟨hcs, hx⟩ | ⟨a, len, cap, m, n, D, Pl, hcs, _, hl, hm, hmm, hx, hi⟩
 ·obtain rfl : c1 = .slice none 0 0 := by simpa using hcs
  exact ⟨[], ⟨none, 0, rfl, .inl rfl⟩, fun x hx => by cases hx⟩
 ·obtain rfl : c1 = .slice (some a) len cap := by simpa using hcs
  simp only [if_true] at hmm
  by_cases hz : len = 0
  ·subst hz
   exact ⟨[], ⟨some a, cap, rfl, .inl rfl⟩, fun x hx => by cases hx⟩
  ·have hz1 : z.1 = .slice ((List.range len).map D) ((List.range (m - len)).map fun j => D (len + j)) := by rw [hx]
   rw [hz1] at hs
   simp only [DataW.weights, Tryz.underlying39, List.mem_cons, List.mem_append] at hs
   have hcap := hs _ (.inl rfl)
   simp only [List.length_map, List.length_range, hB, reachBytes] at hcap
   have hstr : ∀ i, i < len → ∀ q, q ∈ (D i).weights Tryz.prog 33 → q ≤ reachBytes := fun i hil q hq =>
    hs q (.inr (.inl (Bk.wa (List.mem_map.2 ⟨i, List.mem_range.2 hil, rfl⟩) hq)))
   rw [hC] at hi
   have hone : ∀ i, i < len → ∃ x : Kn.V, (W.cell? (a.add (i * 3)) = some (.bool x.null) ∧ W.cell? (a.add (i * 3 + 1)) = some (.int .i64 x.n) ∧ W.cell? (a.add (i * 3 + 2)) = some (.string x.s)) ∧ Bk.In x := fun i hil => by
    obtain ⟨cs', hc, ht⟩ := hi i (by omega)
    obtain ⟨x, hxc, hd⟩ := Kn.open_cells ht
    obtain ⟨y, hyc, hy64⟩ := Cl.open_cells ht
    have hxy : Ty.I64 x.n := by
     rw [hxc] at hyc
     simp only [List.cons.injEq, Value.int.injEq, true_and] at hyc
     rw [hyc.2.1]
     exact hy64
    subst hxc
    clear hyc
    obtain ⟨_, _, hat⟩ := World.cells?_some hc
    have a0 := hat 0 (by omega)
    have a1 := hat 1 (by omega)
    have a2 := hat 2 (by omega)
    rw [add_add] at a0 a1 a2
    refine ⟨x, ⟨a0, a1, a2⟩, ?_, hxy⟩
    have h1 := hstr i hil x.s.size (by
     rw [show D i = Kn.rd x from hd]
     unfold Kn.rd
     simp only [DataW.weights, Tryz.underlying33]
     show x.s.size ∈ DataW.weightsEach Tryz.prog [4, 2, 9] [.lit (.bool x.null), .lit (.int .i64 x.n), .lit (.string x.s.data.toList)]
     simp [DataW.weightsEach, DataW.weights])
    unfold reachBytes at h1
    unfold Kn.Z
    omega
   obtain ⟨b, off, spot⟩ := a
   have hspot : spot = none := by
    obtain ⟨x, ⟨h0, _⟩, _⟩ := hone 0 (by omega)
    simpa [Addr.add] using World.cell?_spot h0
   subst hspot
   have hlt : b < W.heap.size := by
    obtain ⟨x, ⟨h0, _⟩, _⟩ := hone 0 (by omega)
    have := World.block_lt_of_cell? W _ h0
    simpa [Addr.add] using this
   have hch : ∃ f : Nat → Kn.V, ∀ i, i < len → Kn.At W b (off + i * 3) (f i) ∧ Bk.In (f i) := by
    have hone' : ∀ i, i < len → ∃ x : Kn.V, Kn.At W b (off + i * 3) x ∧ Bk.In x := fun i hil => by
     obtain ⟨x, ⟨h0, h1, h2⟩, h3⟩ := hone i hil
     rw [add_plain] at h0 h1 h2
     rw [← Nat.add_assoc] at h1 h2
     exact ⟨x, ⟨h0, h1, h2⟩, h3⟩
    refine ⟨fun i => if hil : i < len then (hone' i hil).choose else ⟨false, 0, ⟨#[]⟩⟩, fun i hil => ?_⟩
    have hs := (hone' i hil).choose_spec
    simp only [dif_pos hil]
    exact hs
   obtain ⟨f, hf'⟩ := hch
   have hlen : ((List.range len).map f).length = len := by simp
   refine ⟨(List.range len).map f, ⟨some ⟨b, off, none⟩, cap, by rw [hlen], .inr ⟨b, off, rfl, hlt, by rw [hlen]; omega, fun i x hix => ?_⟩⟩, fun x hx => ?_⟩
   ·rw [List.getElem?_map, Option.map_eq_some_iff] at hix
    obtain ⟨i', hi', rfl⟩ := hix
    obtain ⟨hil, rfl⟩ := List.getElem?_eq_some_iff.1 hi'
    rw [List.getElem_range]
    rw [List.length_range] at hil
    exact (hf' i hil).1
   ·obtain ⟨i, hi, rfl⟩ := List.mem_map.1 hx
    exact (hf' i (List.mem_range.1 hi)).2
set_option maxRecDepth 100000 in
theorem Bk.open_deed_cells {fuel : Nat} {cs : List Value} {z : DataW H × List MemPlace} (h : DataW.trod enc Tryz.prog W 0 (fun _ => true) true fuel 41 cs = some z)
 (hs : ∀ n ∈ z.1.weights Tryz.prog 41, n ≤ reachBytes) : ∃ (x : Dd.D) (u : Value), cs = [.bool x.gone, u] ∧ Kn.Vals W u x.row ∧ ∀ y ∈ x.row, Bk.In y := by
 obtain ⟨xs, f', _, hx, hcl, hxl, hg⟩ := DataW.trod_struct Tryz.underlying41 h
 have hC : Tryz.prog.cellsOf 41 = 2 := by kernel_rfl
 have i3 : Tryz.prog.cellsOf 4 = 1 := by kernel_rfl
 have ir : Tryz.prog.cellsOf 39 = 1 := by kernel_rfl
 rw [hC] at hcl
 match cs, hcl, xs, hxl with
 | [c0, c1], _, [y0, y1], _ =>
   have g0 : DataW.trod enc Tryz.prog W 0 (fun _ => true) true f' 4 ((List.drop 0 [c0, c1]).take (Tryz.prog.cellsOf 4)) = some y0 := hg 0 _ rfl
   have g1 : DataW.trod enc Tryz.prog W 0 (fun _ => true) true f' 39 ((List.drop 1 [c0, c1]).take (Tryz.prog.cellsOf 39)) = some y1 := hg 1 _ rfl
   rw [i3] at g0
   rw [ir] at g1
   obtain ⟨k, e0, r0⟩ := DataW.trod_bool Tryz.underlying4 (show DataW.trod enc Tryz.prog W 0 (fun _ => true) true f' 4 [c0] = some y0 from g0)
   have g1 : DataW.trod enc Tryz.prog W 0 (fun _ => true) true f' 39 [c1] = some y1 := g1
   simp only [List.cons.injEq, and_true] at e0
   subst e0
   obtain ⟨l, hl, hin⟩ := Bk.open_row g1 fun n hn => hs n (by
    have hz : z.1 = .agg [y0.1, y1.1] := by rw [hx]; rfl
    rw [hz]
    simp only [DataW.weights, Tryz.underlying41]
    show n ∈ DataW.weightsEach Tryz.prog [4, 39] [y0.1, y1.1]
    simp only [DataW.weightsEach, List.append_nil, List.mem_append]
    exact .inr hn)
   exact ⟨⟨k, l⟩, c1, rfl, hl, hin⟩
theorem Bk.fits {ts : List TypeId} {ds : List (DataW H)} (h : (DataW.weightsEach Tryz.prog ts ds).all (· ≤ reachBytes) = true) {j : Nat} {t : TypeId} {d : DataW H} (ht : ts[j]? = some t) (hd : ds[j]? = some d) : ∀ n ∈ d.weights Tryz.prog t, n ≤ reachBytes :=
 fun n hn => of_decide_eq_true (List.all_eq_true.1 h n (DataW.weights_mem_each ht hd _ hn))
set_option maxRecDepth 100000 in
theorem Bk.open_deeds {ts : List TypeId} {ds : List (DataW H)} (hsz : (DataW.weightsEach Tryz.prog ts ds).all (· ≤ reachBytes) = true) {j : Nat} {v : Value} {d : DataW H} {ps : List MemPlace} {r : Reach} {b0 : Nat}
 (ht : ts[j]? = some 23) (hd : ds[j]? = some d) (hv : Value.okWide Tryz.prog W r b0 23 v) (h : DataW.Trod enc Tryz.prog W 0 (fun _ => true) true 23 v d ps) :
 ∃ L : List Dd.D, Bk.Ds W v L ∧ Bk.Zs L ∧ ∀ d ∈ L, ∀ x ∈ d.row, Ty.I64 x.n := by
 obtain ⟨a0, len0, cap0, rfl⟩ := okWide_slice Tryz.underlying23 hv
 obtain ⟨fuel, hf⟩ := h
 have hs := Bk.fits hsz ht hd
 have hC : Tryz.prog.cellsOf 41 = 2 := by kernel_rfl
 rcases open_slice Tryz.underlying23 hf with ⟨hcs, hx⟩ | ⟨a, len, cap, m, n, D, Pl, hcs, _, hl, hm, hmm, hx, hi⟩
 ·have hv : Value.slice a0 len0 cap0 = .slice none 0 0 := by simpa [Value.cells] using hcs
  exact ⟨[], ⟨none, 0, hv, Nat.le_refl _, by decide, .inl rfl⟩, (fun x hx => by cases hx), fun x hx => by cases hx⟩
 ·have hv : Value.slice a0 len0 cap0 = .slice (some a) len cap := by simpa [Value.cells] using hcs
  rw [hv]
  simp only [if_true] at hmm
  have hm' : cap ≤ 9223372036854775807 := by unfold maxLen at hm; omega
  by_cases hz : len = 0
  ·subst hz
   exact ⟨[], ⟨some a, cap, rfl, Nat.zero_le _, hm', .inl rfl⟩, (fun x hx => by cases hx), fun x hx => by cases hx⟩
  ·have hz1 : d = .slice ((List.range len).map D) ((List.range (m - len)).map fun j => D (len + j)) := by
    have := congrArg Prod.fst hx
    exact this
   rw [hz1] at hs
   simp only [DataW.weights, Tryz.underlying23, List.mem_cons, List.mem_append] at hs
   have hstr : ∀ i, i < len → ∀ q, q ∈ (D i).weights Tryz.prog 41 → q ≤ reachBytes := fun i hil q hq =>
    hs q (.inr (.inl (Bk.wa (List.mem_map.2 ⟨i, List.mem_range.2 hil, rfl⟩) hq)))
   rw [hC] at hi
   have hone : ∀ i, i < len → ∃ (x : Dd.D) (u : Value), (W.cell? (a.add (i * 2)) = some (.bool x.gone) ∧ W.cell? (a.add (i * 2 + 1)) = some u) ∧ Kn.Vals W u x.row ∧ ∀ y ∈ x.row, Bk.In y := fun i hil => by
    obtain ⟨cs', hc, ht⟩ := hi i (by omega)
    obtain ⟨x, u, rfl, hg⟩ := Bk.open_deed_cells ht (hstr i hil)
    obtain ⟨_, _, hat⟩ := World.cells?_some hc
    have a0 := hat 0 (by omega)
    have a1 := hat 1 (by omega)
    rw [add_add] at a0 a1
    exact ⟨x, u, ⟨a0, a1⟩, hg⟩
   obtain ⟨b, off, spot⟩ := a
   have hspot : spot = none := by
    obtain ⟨x, u, ⟨h0, _⟩, _⟩ := hone 0 (by omega)
    simpa [Addr.add] using World.cell?_spot h0
   subst hspot
   have hlt : b < W.heap.size := by
    obtain ⟨x, u, ⟨h0, _⟩, _⟩ := hone 0 (by omega)
    have := World.block_lt_of_cell? W _ h0
    simpa [Addr.add] using this
   have hch : ∃ f : Nat → Dd.D, ∀ i, i < len → ∃ u, (W.cell? ⟨b, off + i * 2, none⟩ = some (.bool (f i).gone) ∧ W.cell? ⟨b, off + i * 2 + 1, none⟩ = some u) ∧ Kn.Vals W u (f i).row ∧ ∀ y ∈ (f i).row, Bk.In y := by
    have hone' : ∀ i, i < len → ∃ x : Dd.D, ∃ u, (W.cell? ⟨b, off + i * 2, none⟩ = some (.bool x.gone) ∧ W.cell? ⟨b, off + i * 2 + 1, none⟩ = some u) ∧ Kn.Vals W u x.row ∧ ∀ y ∈ x.row, Bk.In y := fun i hil => by
     obtain ⟨x, u, ⟨h0, h1⟩, h3⟩ := hone i hil
     rw [add_plain] at h0 h1
     rw [← Nat.add_assoc] at h1
     exact ⟨x, u, ⟨h0, h1⟩, h3⟩
    refine ⟨fun i => if hil : i < len then (hone' i hil).choose else ⟨false, []⟩, fun i hil => ?_⟩
    have hs := (hone' i hil).choose_spec
    simp only [dif_pos hil]
    exact hs
   obtain ⟨f, hf'⟩ := hch
   have hlen : ((List.range len).map f).length = len := by simp
   have hall : ∀ d ∈ (List.range len).map f, ∀ y ∈ d.row, Bk.In y := fun d hd => by
    obtain ⟨i, hi, rfl⟩ := List.mem_map.1 hd
    obtain ⟨_, _, _, h⟩ := hf' i (List.mem_range.1 hi)
    exact h
   refine ⟨(List.range len).map f, ⟨some ⟨b, off, none⟩, cap, by rw [hlen], by rw [hlen]; exact hl, hm', .inr ⟨b, off, rfl, hlt, fun i x hix => ?_⟩⟩, fun d hd y hy => (hall d hd y hy).1, fun d hd y hy => (hall d hd y hy).2⟩
   rw [List.getElem?_map, Option.map_eq_some_iff] at hix
   obtain ⟨i', hi', rfl⟩ := hix
   obtain ⟨hil, rfl⟩ := List.getElem?_eq_some_iff.1 hi'
   rw [List.getElem_range]
   rw [List.length_range] at hil
   obtain ⟨u, ⟨h0, h1⟩, h2, _⟩ := hf' i hil
   exact ⟨u, h0, h1, h2⟩
end
end Go.Proofs.YtbelkhkllneifaaGreatDoor
namespace Go.Proofs.YtbelkhkllneifaaGreatDoor.Ty
open Go.RowKit Go.WideShapes Go.ChangeShapes
theorem post_below {H : Type} {enc : TypeId × Value → H} {P : Program} {f : Func} {s : ChangeSpec} {apart fresh handsOn again : Bool} {W W' : World} {args : Array Value} {v : Value} {ds gs : List (DataW H)} {before pa pv : List MemPlace}
 (hW : DataW.Whole enc P f.params.toList s.vars apart W args.toList ds gs before)
 (hr : ∀ (b : Nat) (sp : Nat → Bool) (hd : Bool), DataW.TrodAll enc P W' b sp hd f.resultTypes.toList (v.resultList f.resultTypes.size) (s.fn H (ds ++ gs)).results [])
 (ha : ∀ sp : Nat → Bool, (∀ p ∈ before, sp p.block = true) → DataW.TrodAll enc P W' 0 sp true f.params.toList args.toList (s.fn H (ds ++ gs)).args pa)
 (hv : ∀ sp : Nat → Bool, (∀ p ∈ before, sp p.block = true) → DataW.TrodVars enc P W' sp s.vars (s.fn H (ds ++ gs)).vars pv)
 (hp : before = pa ++ pv) (hb : Below W.heap.size W W')
 (hok : ∀ (j : Nat) (t : TypeId) (r : Value), f.resultTypes[j]? = some t → (v.resultList f.resultTypes.size)[j]? = some r → Value.okWide P W' .any 0 t r) :
 s.post enc P f apart fresh handsOn again W args v W' := by
 have hl : ∀ p ∈ before, p.block < W.heap.size := fun p h => hW.lt p h
 have hs : ∀ p ∈ before, (fun b => decide (b < W.heap.size)) p.block = true := fun p h => by simpa using hl p h
 have hW0 := hW
 obtain ⟨_, _, _, _, _, hz, hn⟩ := hW0
 refine ⟨ds, gs, before, [], pa, pv, hW, hr _ _ _, ha _ hs, hv _ hs, World.keptBut_mono (fun p h => ⟨h, by rw [hp] at h; exact .inr (List.mem_append.1 h)⟩) (hb.frame (· ∈ before)), fun _ => ⟨hok, _, _, ([] ++ pa) ++ pv, ⟨[] ++ pa, pv, trodAll_append (ha _ (fun _ _ => rfl)) (hr _ _ _), hv _ (fun _ _ => rfl), rfl, ?_, ?_⟩, ?_⟩⟩
 ·intro b off h
  have hin : MemPlace.cell b off ∈ before := by rw [hp]; simpa using h
  rw [hb.frozen (hl _ hin)]
  exact hz b off hin
 ·intro hap
  have := hn hap
  rw [hp] at this
  simpa using this
 ·intro p h _
  rw [hp]
  simpa using h
end Go.Proofs.YtbelkhkllneifaaGreatDoor.Ty
namespace Go.Proofs.YtbelkhkllneifaaGreatDoor.Ty
open Go.RowKit Go.WideShapes Go.ChangeShapes
theorem all_stay {H : Type} {enc : TypeId × Value → H} {P : Program} (hl : laidOutB P = true) {W W' : World} {sp : Nat → Bool} : ∀ (ts : List TypeId) (vs : List Value) (ds : List (DataW H)) (ps : List MemPlace),
 (ts.all fun t => P.readableRec t && decide (t < P.types.size)) = true → DataW.TrodAll enc P W 0 (fun _ => true) true ts vs ds ps → (∀ p ∈ ps, W.sameAt W' p) → (∀ p ∈ ps, sp p.block = true) → DataW.TrodAll enc P W' 0 sp true ts vs ds ps
 | [], [], [], _, _, h, _, _ => h
 | [], [], _ :: _, _, _, h, _, _ => h.elim
 | [], _ :: _, [], _, _, h, _, _ => h.elim
 | [], _ :: _, _ :: _, _, _, h, _, _ => h.elim
 | _ :: _, [], [], _, _, h, _, _ => h.elim
 | _ :: _, [], _ :: _, _, _, h, _, _ => h.elim
 | _ :: _, _ :: _, [], _, _, h, _, _ => h.elim
 | t :: ts, v :: vs, d :: ds, ps, ht, h, hs, hsp => by
   obtain ⟨p, q, h1, h2, rfl⟩ := h
   simp only [List.all_cons, Bool.and_eq_true, decide_eq_true_eq] at ht
   exact ⟨p, q, WideElems.Trod_stays hl ht.1.1 ht.1.2 h1 (fun x hx => hs x (List.mem_append_left _ hx)) (fun x hx => hsp x (List.mem_append_left _ hx)),
    all_stay hl ts vs ds q ht.2 h2 (fun x hx => hs x (List.mem_append_right _ hx)) (fun x hx => hsp x (List.mem_append_right _ hx)), rfl⟩
end Go.Proofs.YtbelkhkllneifaaGreatDoor.Ty
