/-
  Arguments of the laws of column opened: a column by value; a slice of values, their numbers in bounds.
  Contracts of package kinds: keys in a range. The document's answer. The laws' own 'lives'.
  Arguments of kinds opened: values, ranges, slices of columns and of values; texts are no longer than a machine can hold.
  Arguments of the laws of deeds opened: a deed by value; the length of a slice is not above its capacity.
  The row's last step where the call leaves a world that is, below its first new block, as it was.
  What was given to a call that wrote nothing that was there reads behind the call as it read before, whatever its types.
-/
import Derived.Test.YtccjfmjgkkpndaaDoorKV
import Derived.Deep.Slices
import Derived.Deep.Fields
import Derived.ChangeSame
import Derived.ProofKit
import Derived.OpenShut
import Derived.SizedLaws
import Derived.Test.YtccjfmjgkkpndaaDoorK8
import Derived.Test.YtccjfmjgkkpndaaDoorV1
import Derived.Test.YtccjfmjgkkpndaaDoorRows
import Derived.Below
import Derived.Carry
namespace Go.Proofs.YtccjfmjgkkpndaaDoor
open Go.RowKit Go.ChangeShapes Go.WideShapes Go.ChangeAt Go.Deep
section
variable {H : Type} {enc : TypeId × Value → H} {W : World}
set_option maxRecDepth 100000 in
theorem Cl.open_cells {fuel : Nat} {cs : List Value} {z : DataW H × List MemPlace} (h : DataW.trod enc Tryd.prog W 0 (fun _ => true) true fuel 43 cs = some z) :
    ∃ x : Kn.V, cs = [.bool x.null, .int .i64 x.n, .string x.s] ∧ Ty.I64 x.n := by
  obtain ⟨xs, f', _, hx, hcl, hxl, hg⟩ := DataW.trod_struct Tryd.underlying43 h
  have hC : Tryd.prog.cellsOf 43 = 3 := by kernel_rfl
  have i3 : Tryd.prog.cellsOf 4 = 1 := by kernel_rfl
  have i2 : Tryd.prog.cellsOf 2 = 1 := by kernel_rfl
  have i9 : Tryd.prog.cellsOf 9 = 1 := by kernel_rfl
  rw [hC] at hcl
  match cs, hcl, xs, hxl with
  | [c0, c1, c2], _, [y0, y1, y2], _ =>
    have g0 : DataW.trod enc Tryd.prog W 0 (fun _ => true) true f' 4 ((List.drop 0 [c0, c1, c2]).take (Tryd.prog.cellsOf 4)) = some y0 := hg 0 _ rfl
    have g1 : DataW.trod enc Tryd.prog W 0 (fun _ => true) true f' 2 ((List.drop 1 [c0, c1, c2]).take (Tryd.prog.cellsOf 2)) = some y1 := hg 1 _ rfl
    have g2 : DataW.trod enc Tryd.prog W 0 (fun _ => true) true f' 9 ((List.drop 2 [c0, c1, c2]).take (Tryd.prog.cellsOf 9)) = some y2 := hg 2 _ rfl
    rw [i3] at g0
    rw [i2] at g1
    rw [i9] at g2
    obtain ⟨k, e0, r0⟩ := DataW.trod_bool Tryd.underlying4 (show DataW.trod enc Tryd.prog W 0 (fun _ => true) true f' 4 [c0] = some y0 from g0)
    obtain ⟨n, e1, r1, w1⟩ := DataW.trod_int Tryd.underlying2 (show DataW.trod enc Tryd.prog W 0 (fun _ => true) true f' 2 [c1] = some y1 from g1)
    obtain ⟨s, e2, r2, _⟩ := DataW.trod_string Tryd.underlying9 (show DataW.trod enc Tryd.prog W 0 (fun _ => true) true f' 9 [c2] = some y2 from g2)
    simp only [List.cons.injEq, and_true] at e0 e1 e2
    subst e0 e1 e2 r0 r1 r2
    exact ⟨⟨k, n, s⟩, rfl, bounds_i64 w1⟩
set_option maxRecDepth 100000 in
theorem Cl.open_col_cells {fuel : Nat} {cs : List Value} {z : DataW H × List MemPlace} (h : DataW.trod enc Tryd.prog W 0 (fun _ => true) true fuel 39 cs = some z) :
    ∃ x : Kn.C, cs = [.int .i64 x.k, .bool x.null] := by
  obtain ⟨xs, f', _, hx, hcl, hxl, hg⟩ := DataW.trod_struct Tryd.underlying39 h
  have hC : Tryd.prog.cellsOf 39 = 2 := by kernel_rfl
  have i3 : Tryd.prog.cellsOf 4 = 1 := by kernel_rfl
  have i2 : Tryd.prog.cellsOf 37 = 1 := by kernel_rfl
  rw [hC] at hcl
  match cs, hcl, xs, hxl with
  | [c0, c1], _, [y0, y1], _ =>
    have g0 : DataW.trod enc Tryd.prog W 0 (fun _ => true) true f' 37 ((List.drop 0 [c0, c1]).take (Tryd.prog.cellsOf 37)) = some y0 := hg 0 _ rfl
    have g1 : DataW.trod enc Tryd.prog W 0 (fun _ => true) true f' 4 ((List.drop 1 [c0, c1]).take (Tryd.prog.cellsOf 4)) = some y1 := hg 1 _ rfl
    rw [i2] at g0
    rw [i3] at g1
    obtain ⟨n, e0, _⟩ := DataW.trod_int Tryd.underlying37 (show DataW.trod enc Tryd.prog W 0 (fun _ => true) true f' 37 [c0] = some y0 from g0)
    obtain ⟨k, e1, _⟩ := DataW.trod_bool Tryd.underlying4 (show DataW.trod enc Tryd.prog W 0 (fun _ => true) true f' 4 [c1] = some y1 from g1)
    simp only [List.cons.injEq, and_true] at e0 e1
    subst e0 e1
    exact ⟨⟨n, k⟩, rfl⟩
set_option maxRecDepth 100000 in
/-- A column, handed over. -/
theorem Cl.open_col {v : Value} {d : DataW H} {ps : List MemPlace} {r : Reach} {b0 : Nat} (hv : Value.okWide Tryd.prog W r b0 39 v) (h : DataW.Trod enc Tryd.prog W 0 (fun _ => true) true 39 v d ps) :
    ∃ x : Kn.C, v = x.val := by
  obtain ⟨cs, rfl, _⟩ := okWide_struct Tryd.underlying39 hv
  obtain ⟨fuel, hf⟩ := h
  obtain ⟨x, hx⟩ := Cl.open_col_cells hf
  have e : cs.toList = [.int .i64 x.k, .bool x.null] := hx
  refine ⟨x, ?_⟩
  unfold Kn.C.val
  rw [← Array.toArray_toList (xs := cs), e]
set_option maxRecDepth 100000 in
/-- A slice of values. -/
theorem Cl.open_vals {a0 : Option Addr} {len cap : Nat} {d : DataW H} {ps : List MemPlace} {t : TypeId} (ht : Tryd.prog.underlying t = some (.slice 43)) (h : DataW.Trod enc Tryd.prog W 0 (fun _ => true) true t (.slice a0 len cap) d ps) :
    ∃ l : List Kn.V, Kn.Vals W (.slice a0 len cap) l ∧ ∀ v ∈ l, Ty.I64 v.n := by
  obtain ⟨fuel, hf⟩ := h
  have hC : Tryd.prog.cellsOf 43 = 3 := by kernel_rfl
  rcases open_slice ht hf with ⟨hcs, hx⟩ | ⟨a, len', cap', m, n, D, Pl, hcs, _, hl, hm, hmm, hx, hi⟩
  · have hv : Value.slice a0 len cap = .slice none 0 0 := by simpa [Value.cells] using hcs
    exact ⟨[], ⟨none, 0, hv, .inl rfl⟩, fun v hv => by cases hv⟩
  · have hv : Value.slice a0 len cap = .slice (some a) len' cap' := by simpa [Value.cells] using hcs
    simp only [Value.slice.injEq] at hv
    obtain ⟨rfl, rfl, rfl⟩ := hv
    simp only [if_true] at hmm
    by_cases hz : len = 0
    · subst hz
      exact ⟨[], ⟨some a, cap, rfl, .inl rfl⟩, fun v hv => by cases hv⟩
    · rw [hC] at hi
      have hone : ∀ i, i < len → ∃ x : Kn.V, W.cell? (a.add (i * 3)) = some (.bool x.null) ∧ W.cell? (a.add (i * 3 + 1)) = some (.int .i64 x.n) ∧ W.cell? (a.add (i * 3 + 2)) = some (.string x.s) ∧ Ty.I64 x.n := fun i hil => by
        obtain ⟨cs', hc, ht⟩ := hi i (by omega)
        obtain ⟨x, rfl, hw⟩ := Cl.open_cells ht
        obtain ⟨_, _, hat⟩ := World.cells?_some hc
        have a0 := hat 0 (by omega)
        have a1 := hat 1 (by omega)
        have a2 := hat 2 (by omega)
        rw [add_add] at a0 a1 a2
        exact ⟨x, a0, a1, a2, hw⟩
      obtain ⟨b, off, spot⟩ := a
      have hspot : spot = none := by
        obtain ⟨x, h0, _⟩ := hone 0 (by omega)
        simpa [Addr.add] using World.cell?_spot h0
      subst hspot
      have hlt : b < W.heap.size := by
        obtain ⟨x, h0, _⟩ := hone 0 (by omega)
        have := World.block_lt_of_cell? W _ h0
        simpa [Addr.add] using this
      have hch : ∃ f : Nat → Kn.V, ∀ i, i < len → Kn.At W b (off + i * 3) (f i) ∧ Ty.I64 (f i).n := by
        have hone' : ∀ i, i < len → ∃ x : Kn.V, Kn.At W b (off + i * 3) x ∧ Ty.I64 x.n := fun i hil => by
          obtain ⟨x, h0, h1, h2, h3⟩ := hone i hil
          rw [add_plain] at h0 h1 h2
          rw [← Nat.add_assoc] at h1 h2
          exact ⟨x, ⟨h0, h1, h2⟩, h3⟩
        refine ⟨fun i => if hil : i < len then (hone' i hil).choose else ⟨false, 0, ⟨#[]⟩⟩, fun i hil => ?_⟩
        have hs := (hone' i hil).choose_spec
        simp only [dif_pos hil]
        exact hs
      obtain ⟨f, hf'⟩ := hch
      refine ⟨(List.range len).map f, ⟨some ⟨b, off, none⟩, cap, by simp, .inr ⟨b, off, rfl, hlt, by unfold maxLen at hm; simp; omega, fun i x hix => ?_⟩⟩, fun v hv => by
        obtain ⟨i, hi, rfl⟩ := List.mem_map.1 hv
        exact (hf' i (List.mem_range.1 hi)).2⟩
      rw [List.getElem?_map, Option.map_eq_some_iff] at hix
      obtain ⟨i', hi', rfl⟩ := hix
      obtain ⟨hil, rfl⟩ := List.getElem?_eq_some_iff.1 hi'
      rw [List.getElem_range]
      rw [List.length_range] at hil
      exact (hf' i hil).1
end
end Go.Proofs.YtccjfmjgkkpndaaDoor

namespace Go.Proofs.YtccjfmjgkkpndaaDoor
open Go.RowKit
/-- A range of keys. -/
structure Kn.R where
  from_ : Bool
  til : Bool
  lo : Kn.V
  hi : Kn.V
abbrev Kn.R.val (r : Kn.R) : Value := .agg #[.bool r.from_, .bool r.til, .bool r.lo.null, .int .i64 r.lo.n, .string r.lo.s, .bool r.hi.null, .int .i64 r.hi.n, .string r.hi.s]
/-- The range lies in a block. -/
structure Kn.RAt (w : World) (b : Nat) (r : Kn.R) : Prop where
  c0 : w.cell? ⟨b, 0, none⟩ = some (.bool r.from_)
  c1 : w.cell? ⟨b, 1, none⟩ = some (.bool r.til)
  lo : Kn.At w b 2 r.lo
  hi : Kn.At w b 5 r.hi
theorem Kn.RAt.later {w w' : World} {b : Nat} {r : Kn.R} (h : Kn.RAt w b r) (g : Below w.heap.size w w') : Kn.RAt w' b r :=
  ⟨(g.cell (p := ⟨b, 0, none⟩) h.lo.lt).trans h.c0, (g.cell (p := ⟨b, 1, none⟩) h.lo.lt).trans h.c1, h.lo.later g, h.hi.later g⟩
theorem Kn.RAt.new (w : World) (r : Kn.R) (t : TypeId) : Kn.RAt (w.alloc (.cells #[.bool r.from_, .bool r.til, .bool r.lo.null, .int .i64 r.lo.n, .string r.lo.s, .bool r.hi.null, .int .i64 r.hi.n, .string r.hi.s] t)) w.heap.size r :=
  ⟨Kn.cell_new w _ t 0 _ rfl, Kn.cell_new w _ t 1 _ rfl, ⟨Kn.cell_new w _ t 2 _ rfl, Kn.cell_new w _ t 3 _ rfl, Kn.cell_new w _ t 4 _ rfl⟩, ⟨Kn.cell_new w _ t 5 _ rfl, Kn.cell_new w _ t 6 _ rfl, Kn.cell_new w _ t 7 _ rfl⟩⟩
theorem Kn.RAt.alloc {w : World} {b : Nat} {r : Kn.R} (h : Kn.RAt w b r) (x : Obj) : Kn.RAt (w.alloc x) b r := h.later ((Below.refl _ w).alloc (Nat.le_refl _) x)
/-- Is a key in a range? -/
def Kn.inR (r : Kn.R) (k : Kn.V) : Bool := (!r.from_ || !decide (Kn.cmp k r.lo < 0)) && (!r.til || decide (Kn.cmp k r.hi < 0))
/-- A range and a value boxed, one behind the other. -/
theorem Kn.boxedR (w : World) (r : Kn.R) (k : Kn.V) (t t' : TypeId) : Kn.RAt ((w.alloc (.cells #[.bool r.from_, .bool r.til, .bool r.lo.null, .int .i64 r.lo.n, .string r.lo.s, .bool r.hi.null, .int .i64 r.hi.n, .string r.hi.s] t)).alloc (.cells #[.bool k.null, .int .i64 k.n, .string k.s] t')) w.heap.size r ∧
    Kn.At ((w.alloc (.cells #[.bool r.from_, .bool r.til, .bool r.lo.null, .int .i64 r.lo.n, .string r.lo.s, .bool r.hi.null, .int .i64 r.hi.n, .string r.hi.s] t)).alloc (.cells #[.bool k.null, .int .i64 k.n, .string k.s] t')) (w.heap.size + 1) 0 k := by
  refine ⟨(Kn.RAt.new w r t).alloc _, ?_⟩
  have := Kn.At.new (w.alloc (.cells #[.bool r.from_, .bool r.til, .bool r.lo.null, .int .i64 r.lo.n, .string r.lo.s, .bool r.hi.null, .int .i64 r.hi.n, .string r.hi.s] t)) k t'
  rwa [World.size_alloc] at this
theorem Kn.box2 (w : World) (x y : Obj) : Below w.heap.size w ((w.alloc x).alloc y) := ((Below.refl _ w).alloc (Nat.le_refl _) _).alloc (by simp) _
/-- The ways of the test of a range. -/
theorem Kn.in_ways (r : Kn.R) (k : Kn.V) : (r.from_ = false ∧ r.til = false ∧ Kn.inR r k = true) ∨ (r.from_ = false ∧ r.til = true ∧ Kn.inR r k = decide (Kn.cmp k r.hi < 0)) ∨ (r.from_ = true ∧ Kn.cmp k r.lo < 0 ∧ Kn.inR r k = false) ∨ (r.from_ = true ∧ ¬ Kn.cmp k r.lo < 0 ∧ r.til = false ∧ Kn.inR r k = true) ∨ (r.from_ = true ∧ ¬ Kn.cmp k r.lo < 0 ∧ r.til = true ∧ Kn.inR r k = decide (Kn.cmp k r.hi < 0)) := by
  unfold Kn.inR
  by_cases h : Kn.cmp k r.lo < 0
  · cases r.from_ <;> cases r.til <;> simp [h]
  · cases r.from_ <;> cases r.til <;> simp [h] <;> omega
end Go.Proofs.YtccjfmjgkkpndaaDoor

namespace Go.Proofs.YtccjfmjgkkpndaaDoor
open Go.RowKit Go.ChangeShapes Go.WideShapes Go.ChangeAt Go.Deep
section
variable {H : Type} {enc : TypeId × Value → H} {W : World}
/-- The reading of a value. -/
def Kn.rd (x : Kn.V) : DataW H := .agg [.lit (.bool x.null), .lit (.int .i64 x.n), .lit (.string x.s.data.toList)]
theorem Kn.open_cells {fuel : Nat} {cs : List Value} {z : DataW H × List MemPlace} (h : DataW.trod enc Tryd.prog W 0 (fun _ => true) true fuel 43 cs = some z) :
    ∃ x : Kn.V, cs = [.bool x.null, .int .i64 x.n, .string x.s] ∧ z.1 = Kn.rd x := by
  obtain ⟨xs, f', _, hx, hcl, hxl, hg⟩ := DataW.trod_struct Tryd.underlying43 h
  have hC : Tryd.prog.cellsOf 43 = 3 := by kernel_rfl
  have i3 : Tryd.prog.cellsOf 4 = 1 := by kernel_rfl
  have i2 : Tryd.prog.cellsOf 2 = 1 := by kernel_rfl
  have i9 : Tryd.prog.cellsOf 9 = 1 := by kernel_rfl
  rw [hC] at hcl
  match cs, hcl, xs, hxl with
  | [c0, c1, c2], _, [y0, y1, y2], _ =>
    have g0 : DataW.trod enc Tryd.prog W 0 (fun _ => true) true f' 4 ((List.drop 0 [c0, c1, c2]).take (Tryd.prog.cellsOf 4)) = some y0 := hg 0 _ rfl
    have g1 : DataW.trod enc Tryd.prog W 0 (fun _ => true) true f' 2 ((List.drop 1 [c0, c1, c2]).take (Tryd.prog.cellsOf 2)) = some y1 := hg 1 _ rfl
    have g2 : DataW.trod enc Tryd.prog W 0 (fun _ => true) true f' 9 ((List.drop 2 [c0, c1, c2]).take (Tryd.prog.cellsOf 9)) = some y2 := hg 2 _ rfl
    rw [i3] at g0
    rw [i2] at g1
    rw [i9] at g2
    obtain ⟨k, e0, r0⟩ := DataW.trod_bool Tryd.underlying4 (show DataW.trod enc Tryd.prog W 0 (fun _ => true) true f' 4 [c0] = some y0 from g0)
    obtain ⟨n, e1, r1, w1⟩ := DataW.trod_int Tryd.underlying2 (show DataW.trod enc Tryd.prog W 0 (fun _ => true) true f' 2 [c1] = some y1 from g1)
    obtain ⟨s, e2, r2, _⟩ := DataW.trod_string Tryd.underlying9 (show DataW.trod enc Tryd.prog W 0 (fun _ => true) true f' 9 [c2] = some y2 from g2)
    simp only [List.cons.injEq, and_true] at e0 e1 e2
    subst e0 e1 e2 r0 r1 r2
    exact ⟨⟨k, n, s⟩, rfl, by rw [hx]; rfl⟩
theorem Kn.open_col_cells {fuel : Nat} {cs : List Value} {z : DataW H × List MemPlace} (h : DataW.trod enc Tryd.prog W 0 (fun _ => true) true fuel 39 cs = some z) :
    ∃ x : Kn.C, cs = [.int .i64 x.k, .bool x.null] := by
  obtain ⟨xs, f', _, hx, hcl, hxl, hg⟩ := DataW.trod_struct Tryd.underlying39 h
  have hC : Tryd.prog.cellsOf 39 = 2 := by kernel_rfl
  have i3 : Tryd.prog.cellsOf 4 = 1 := by kernel_rfl
  have i2 : Tryd.prog.cellsOf 37 = 1 := by kernel_rfl
  rw [hC] at hcl
  match cs, hcl, xs, hxl with
  | [c0, c1], _, [y0, y1], _ =>
    have g0 : DataW.trod enc Tryd.prog W 0 (fun _ => true) true f' 37 ((List.drop 0 [c0, c1]).take (Tryd.prog.cellsOf 37)) = some y0 := hg 0 _ rfl
    have g1 : DataW.trod enc Tryd.prog W 0 (fun _ => true) true f' 4 ((List.drop 1 [c0, c1]).take (Tryd.prog.cellsOf 4)) = some y1 := hg 1 _ rfl
    rw [i2] at g0
    rw [i3] at g1
    obtain ⟨n, e0, _⟩ := DataW.trod_int Tryd.underlying37 (show DataW.trod enc Tryd.prog W 0 (fun _ => true) true f' 37 [c0] = some y0 from g0)
    obtain ⟨k, e1, _⟩ := DataW.trod_bool Tryd.underlying4 (show DataW.trod enc Tryd.prog W 0 (fun _ => true) true f' 4 [c1] = some y1 from g1)
    simp only [List.cons.injEq, and_true] at e0 e1
    subst e0 e1
    exact ⟨⟨n, k⟩, rfl⟩
/-- A value, handed over. -/
theorem Kn.open_val {v : Value} {d : DataW H} {ps : List MemPlace} {r : Reach} {b0 : Nat} (hv : Value.okWide Tryd.prog W r b0 43 v) (h : DataW.Trod enc Tryd.prog W 0 (fun _ => true) true 43 v d ps) :
    ∃ x : Kn.V, v = x.val ∧ d = Kn.rd x := by
  obtain ⟨cs, rfl, _⟩ := okWide_struct Tryd.underlying43 hv
  obtain ⟨fuel, hf⟩ := h
  obtain ⟨x, hx, hd⟩ := Kn.open_cells hf
  have e : cs.toList = [.bool x.null, .int .i64 x.n, .string x.s] := hx
  refine ⟨x, ?_, hd⟩
  unfold Kn.V.val
  rw [← Array.toArray_toList (xs := cs), e]
theorem Kn.z_of {ts : List TypeId} {ds : List (DataW H)} (h : (DataW.weightsEach Tryd.prog ts ds).all (· ≤ reachBytes) = true) {j : Nat} {x : Kn.V} (ht : ts[j]? = some 43) (hd : ds[j]? = some (Kn.rd x)) : Kn.Z x := by
  have := List.all_eq_true.1 h x.s.size (DataW.weights_mem_each ht hd _ (by
    unfold Kn.rd
    simp only [DataW.weights, Tryd.underlying43]
    show x.s.size ∈ DataW.weightsEach Tryd.prog [4, 2, 9] [.lit (.bool x.null), .lit (.int .i64 x.n), .lit (.string x.s.data.toList)]
    simp [DataW.weightsEach, DataW.weights]))
  have h2 : x.s.size ≤ reachBytes := of_decide_eq_true this
  unfold reachBytes at h2
  unfold Kn.Z
  omega
/-- A slice of columns. -/
theorem Kn.open_cols {a0 : Option Addr} {len cap : Nat} {d : DataW H} {ps : List MemPlace} (h : DataW.Trod enc Tryd.prog W 0 (fun _ => true) true 22 (.slice a0 len cap) d ps) :
    ∃ l : List Kn.C, Kn.Cols W (.slice a0 len cap) l := by
  obtain ⟨fuel, hf⟩ := h
  have hC : Tryd.prog.cellsOf 39 = 2 := by kernel_rfl
  rcases open_slice Tryd.underlying22 hf with ⟨hcs, hx⟩ | ⟨a, len', cap', m, n, D, Pl, hcs, _, hl, hm, hmm, hx, hi⟩
  · have hv : Value.slice a0 len cap = .slice none 0 0 := by simpa [Value.cells] using hcs
    exact ⟨[], ⟨none, 0, hv, .inl rfl⟩⟩
  · have hv : Value.slice a0 len cap = .slice (some a) len' cap' := by simpa [Value.cells] using hcs
    simp only [Value.slice.injEq] at hv
    obtain ⟨rfl, rfl, rfl⟩ := hv
    simp only [if_true] at hmm
    by_cases hz : len = 0
    · subst hz
      exact ⟨[], ⟨some a, cap, rfl, .inl rfl⟩⟩
    · rw [hC] at hi
      have hone : ∀ i, i < len → ∃ x : Kn.C, W.cell? (a.add (i * 2)) = some (.int .i64 x.k) ∧ W.cell? (a.add (i * 2 + 1)) = some (.bool x.null) := fun i hil => by
        obtain ⟨cs', hc, ht⟩ := hi i (by omega)
        obtain ⟨x, rfl⟩ := Kn.open_col_cells ht
        obtain ⟨_, _, hat⟩ := World.cells?_some hc
        have a0 := hat 0 (by omega)
        have a1 := hat 1 (by omega)
        rw [add_add] at a0 a1
        exact ⟨x, a0, a1⟩
      obtain ⟨b, off, spot⟩ := a
      have hspot : spot = none := by
        obtain ⟨x, h0, _⟩ := hone 0 (by omega)
        simpa [Addr.add] using World.cell?_spot h0
      subst hspot
      have hlt : b < W.heap.size := by
        obtain ⟨x, h0, _⟩ := hone 0 (by omega)
        have := World.block_lt_of_cell? W _ h0
        simpa [Addr.add] using this
      have hch : ∃ f : Nat → Kn.C, ∀ i, i < len → W.cell? ⟨b, off + i * 2, none⟩ = some (.int .i64 (f i).k) ∧ W.cell? ⟨b, off + i * 2 + 1, none⟩ = some (.bool (f i).null) := by
        have hone' : ∀ i, i < len → ∃ x : Kn.C, W.cell? ⟨b, off + i * 2, none⟩ = some (.int .i64 x.k) ∧ W.cell? ⟨b, off + i * 2 + 1, none⟩ = some (.bool x.null) := fun i hil => by
          obtain ⟨x, h0, h1⟩ := hone i hil
          rw [add_plain] at h0 h1
          rw [← Nat.add_assoc] at h1
          exact ⟨x, h0, h1⟩
        refine ⟨fun i => if hil : i < len then (hone' i hil).choose else ⟨0, false⟩, fun i hil => ?_⟩
        have hs := (hone' i hil).choose_spec
        simp only [dif_pos hil]
        exact hs
      obtain ⟨f, hf'⟩ := hch
      refine ⟨(List.range len).map f, ⟨some ⟨b, off, none⟩, cap, by simp, .inr ⟨b, off, rfl, hlt, by unfold maxLen at hm; simp; omega, fun i x hix => ?_⟩⟩⟩
      rw [List.getElem?_map, Option.map_eq_some_iff] at hix
      obtain ⟨i', hi', rfl⟩ := hix
      obtain ⟨hil, rfl⟩ := List.getElem?_eq_some_iff.1 hi'
      rw [List.getElem_range]
      rw [List.length_range] at hil
      exact hf' i hil
/-- A slice of values. -/
theorem Kn.open_vals {a0 : Option Addr} {len cap : Nat} {d : DataW H} {ps : List MemPlace} {t : TypeId} (ht : Tryd.prog.underlying t = some (.slice 43)) (h : DataW.Trod enc Tryd.prog W 0 (fun _ => true) true t (.slice a0 len cap) d ps) :
    ∃ l : List Kn.V, Kn.Vals W (.slice a0 len cap) l := by
  obtain ⟨fuel, hf⟩ := h
  have hC : Tryd.prog.cellsOf 43 = 3 := by kernel_rfl
  rcases open_slice ht hf with ⟨hcs, hx⟩ | ⟨a, len', cap', m, n, D, Pl, hcs, _, hl, hm, hmm, hx, hi⟩
  · have hv : Value.slice a0 len cap = .slice none 0 0 := by simpa [Value.cells] using hcs
    exact ⟨[], ⟨none, 0, hv, .inl rfl⟩⟩
  · have hv : Value.slice a0 len cap = .slice (some a) len' cap' := by simpa [Value.cells] using hcs
    simp only [Value.slice.injEq] at hv
    obtain ⟨rfl, rfl, rfl⟩ := hv
    simp only [if_true] at hmm
    by_cases hz : len = 0
    · subst hz
      exact ⟨[], ⟨some a, cap, rfl, .inl rfl⟩⟩
    · rw [hC] at hi
      have hone : ∀ i, i < len → ∃ x : Kn.V, W.cell? (a.add (i * 3)) = some (.bool x.null) ∧ W.cell? (a.add (i * 3 + 1)) = some (.int .i64 x.n) ∧ W.cell? (a.add (i * 3 + 2)) = some (.string x.s) := fun i hil => by
        obtain ⟨cs', hc, ht⟩ := hi i (by omega)
        obtain ⟨x, rfl, _⟩ := Kn.open_cells ht
        obtain ⟨_, _, hat⟩ := World.cells?_some hc
        have a0 := hat 0 (by omega)
        have a1 := hat 1 (by omega)
        have a2 := hat 2 (by omega)
        rw [add_add] at a0 a1 a2
        exact ⟨x, a0, a1, a2⟩
      obtain ⟨b, off, spot⟩ := a
      have hspot : spot = none := by
        obtain ⟨x, h0, _⟩ := hone 0 (by omega)
        simpa [Addr.add] using World.cell?_spot h0
      subst hspot
      have hlt : b < W.heap.size := by
        obtain ⟨x, h0, _⟩ := hone 0 (by omega)
        have := World.block_lt_of_cell? W _ h0
        simpa [Addr.add] using this
      have hch : ∃ f : Nat → Kn.V, ∀ i, i < len → Kn.At W b (off + i * 3) (f i) := by
        have hone' : ∀ i, i < len → ∃ x : Kn.V, Kn.At W b (off + i * 3) x := fun i hil => by
          obtain ⟨x, h0, h1, h2⟩ := hone i hil
          rw [add_plain] at h0 h1 h2
          rw [← Nat.add_assoc] at h1 h2
          exact ⟨x, h0, h1, h2⟩
        refine ⟨fun i => if hil : i < len then (hone' i hil).choose else ⟨false, 0, ⟨#[]⟩⟩, fun i hil => ?_⟩
        have hs := (hone' i hil).choose_spec
        simp only [dif_pos hil]
        exact hs
      obtain ⟨f, hf'⟩ := hch
      refine ⟨(List.range len).map f, ⟨some ⟨b, off, none⟩, cap, by simp, .inr ⟨b, off, rfl, hlt, by unfold maxLen at hm; simp; omega, fun i x hix => ?_⟩⟩⟩
      rw [List.getElem?_map, Option.map_eq_some_iff] at hix
      obtain ⟨i', hi', rfl⟩ := hix
      obtain ⟨hil, rfl⟩ := List.getElem?_eq_some_iff.1 hi'
      rw [List.getElem_range]
      rw [List.length_range] at hil
      exact hf' i hil
end
end Go.Proofs.YtccjfmjgkkpndaaDoor

namespace Go.Proofs.YtccjfmjgkkpndaaDoor
open Go.RowKit Go.ChangeShapes Go.WideShapes Go.ChangeAt Go.Deep
section
variable {H : Type} {enc : TypeId × Value → H} {W : World}
set_option maxRecDepth 100000 in
theorem Dd.cap_cols {a0 : Option Addr} {len cap : Nat} {d : DataW H} {ps : List MemPlace} (h : DataW.Trod enc Tryd.prog W 0 (fun _ => true) true 22 (.slice a0 len cap) d ps) : len ≤ cap := by
  obtain ⟨fuel, hf⟩ := h
  rcases open_slice Tryd.underlying22 hf with ⟨hcs, hx⟩ | ⟨a, len', cap', m, n, D, Pl, hcs, _, hl, hm, hmm, hx, hi⟩
  · have hv : Value.slice a0 len cap = .slice none 0 0 := by simpa [Value.cells] using hcs
    simp only [Value.slice.injEq] at hv
    omega
  · have hv : Value.slice a0 len cap = .slice (some a) len' cap' := by simpa [Value.cells] using hcs
    simp only [Value.slice.injEq] at hv
    omega
set_option maxRecDepth 100000 in
/-- A deed, handed over. -/
theorem Dd.open_deed {v : Value} {d : DataW H} {ps : List MemPlace} {r : Reach} {b0 : Nat} (hv : Value.okWide Tryd.prog W r b0 26 v) (h : DataW.Trod enc Tryd.prog W 0 (fun _ => true) true 26 v d ps) :
    ∃ (x : Dd.D) (u : Value), v = .agg #[.bool x.gone, u] ∧ Kn.Vals W u x.row ∧ ∀ y ∈ x.row, Ty.I64 y.n := by
  obtain ⟨cs0, rfl, hcsz⟩ := okWide_struct Tryd.underlying26 hv
  obtain ⟨fuel, hf⟩ := h
  have hf : DataW.trod enc Tryd.prog W 0 (fun _ => true) true fuel 26 cs0.toList = some (d, ps) := hf
  generalize hcs : cs0.toList = cs at hf
  obtain ⟨xs, f', _, hx, hcl, hxl, hg⟩ := DataW.trod_struct Tryd.underlying26 hf
  have hC : Tryd.prog.cellsOf 26 = 2 := by kernel_rfl
  have i3 : Tryd.prog.cellsOf 4 = 1 := by kernel_rfl
  have ir : Tryd.prog.cellsOf 24 = 1 := by kernel_rfl
  rw [hC] at hcl
  match cs, hcl, xs, hxl with
  | [c0, c1], _, [y0, y1], _ =>
    have g0 : DataW.trod enc Tryd.prog W 0 (fun _ => true) true f' 4 ((List.drop 0 [c0, c1]).take (Tryd.prog.cellsOf 4)) = some y0 := hg 0 _ rfl
    have g1 : DataW.trod enc Tryd.prog W 0 (fun _ => true) true f' 24 ((List.drop 1 [c0, c1]).take (Tryd.prog.cellsOf 24)) = some y1 := hg 1 _ rfl
    rw [i3] at g0
    rw [ir] at g1
    obtain ⟨k, e0, r0⟩ := DataW.trod_bool Tryd.underlying4 (show DataW.trod enc Tryd.prog W 0 (fun _ => true) true f' 4 [c0] = some y0 from g0)
    have g1 : DataW.trod enc Tryd.prog W 0 (fun _ => true) true f' 24 [c1] = some y1 := g1
    have hs : ∃ a0 len cap, c1 = .slice a0 len cap := by
      rcases open_slice Tryd.underlying24 g1 with ⟨hc, _⟩ | ⟨a, len', cap', _, _, _, _, hc, _⟩
      · exact ⟨none, 0, 0, by simpa using hc⟩
      · exact ⟨some a, len', cap', by simpa using hc⟩
    obtain ⟨a0, len, cap, rfl⟩ := hs
    obtain ⟨l, hl, hi⟩ := Cl.open_vals (W := W) (enc := enc) (d := y1.1) (ps := y1.2) Tryd.underlying24 ⟨f', g1⟩
    simp only [List.cons.injEq, and_true] at e0
    subst e0
    refine ⟨⟨k, l⟩, _, ?_, hl, hi⟩
    rw [← Array.toArray_toList (xs := cs0), hcs]
end
end Go.Proofs.YtccjfmjgkkpndaaDoor

namespace Go.Proofs.YtccjfmjgkkpndaaDoor.Ty
open Go.RowKit Go.WideShapes Go.ChangeShapes
/-- The row's post, of a call that wrote nothing that was there. -/
theorem post_below {H : Type} {enc : TypeId × Value → H} {P : Program} {f : Func} {s : ChangeSpec} {apart fresh handsOn again : Bool} {W W' : World} {args : Array Value} {v : Value} {ds gs : List (DataW H)} {before pa pv : List MemPlace}
    (hW : DataW.Whole enc P f.params.toList s.vars apart W args.toList ds gs before)
    (hr : ∀ (b : Nat) (sp : Nat → Bool) (hd : Bool), DataW.TrodAll enc P W' b sp hd f.resultTypes.toList (v.resultList f.resultTypes.size) (s.fn H (ds ++ gs)).results [])
    (ha : ∀ sp : Nat → Bool, (∀ p ∈ before, sp p.block = true) → DataW.TrodAll enc P W' 0 sp true f.params.toList args.toList (s.fn H (ds ++ gs)).args pa)
    (hv : ∀ sp : Nat → Bool, (∀ p ∈ before, sp p.block = true) → DataW.TrodVars enc P W' sp s.vars (s.fn H (ds ++ gs)).vars pv)
    (hp : before = pa ++ pv) (hb : Below W.heap.size W W')
    (hok : ∀ (j : Nat) (t : TypeId) (r : Value), f.resultTypes[j]? = some t → (v.resultList f.resultTypes.size)[j]? = some r → Value.okWide P W' .any 0 t r) :
    s.post enc P f apart fresh handsOn again W args v W' := by
  have hl : ∀ p ∈ before, p.block < W.heap.size := fun p h => hW.lt p h
  have hs : ∀ p ∈ before, (fun b => decide (b < W.heap.size)) p.block = true := fun p h => by simpa using hl p h
  have hW0 := hW
  obtain ⟨_, _, _, _, _, hz, hn⟩ := hW0
  refine ⟨ds, gs, before, [], pa, pv, hW, hr _ _ _, ha _ hs, hv _ hs, World.keptBut_mono (fun p h => ⟨h, by rw [hp] at h; exact .inr (List.mem_append.1 h)⟩) (hb.frame (· ∈ before)), fun _ => ⟨hok, _, _, ([] ++ pa) ++ pv, ⟨[] ++ pa, pv, trodAll_append (ha _ (fun _ _ => rfl)) (hr _ _ _), hv _ (fun _ _ => rfl), rfl, ?_, ?_⟩, ?_⟩⟩
  · intro b off h
    have hin : MemPlace.cell b off ∈ before := by rw [hp]; simpa using h
    rw [hb.frozen (hl _ hin)]
    exact hz b off hin
  · intro hap
    have := hn hap
    rw [hp] at this
    simpa using this
  · intro p h _
    rw [hp]
    simpa using h
end Go.Proofs.YtccjfmjgkkpndaaDoor.Ty

namespace Go.Proofs.YtccjfmjgkkpndaaDoor.Ty
open Go.RowKit Go.WideShapes Go.ChangeShapes
/-- All arguments at once. -/
theorem all_stay {H : Type} {enc : TypeId × Value → H} {P : Program} (hl : laidOutB P = true) {W W' : World} {sp : Nat → Bool} : ∀ (ts : List TypeId) (vs : List Value) (ds : List (DataW H)) (ps : List MemPlace),
    (ts.all fun t => P.readableRec t && decide (t < P.types.size)) = true → DataW.TrodAll enc P W 0 (fun _ => true) true ts vs ds ps → (∀ p ∈ ps, W.sameAt W' p) → (∀ p ∈ ps, sp p.block = true) → DataW.TrodAll enc P W' 0 sp true ts vs ds ps
  | [], [], [], _, _, h, _, _ => h
  | [], [], _ :: _, _, _, h, _, _ => h.elim
  | [], _ :: _, [], _, _, h, _, _ => h.elim
  | [], _ :: _, _ :: _, _, _, h, _, _ => h.elim
  | _ :: _, [], [], _, _, h, _, _ => h.elim
  | _ :: _, [], _ :: _, _, _, h, _, _ => h.elim
  | _ :: _, _ :: _, [], _, _, h, _, _ => h.elim
  | t :: ts, v :: vs, d :: ds, ps, ht, h, hs, hsp => by
    obtain ⟨p, q, h1, h2, rfl⟩ := h
    simp only [List.all_cons, Bool.and_eq_true, decide_eq_true_eq] at ht
    exact ⟨p, q, WideElems.Trod_stays hl ht.1.1 ht.1.2 h1 (fun x hx => hs x (List.mem_append_left _ hx)) (fun x hx => hsp x (List.mem_append_left _ hx)),
      all_stay hl ts vs ds q ht.2 h2 (fun x hx => hs x (List.mem_append_right _ hx)) (fun x hx => hsp x (List.mem_append_right _ hx)), rfl⟩
end Go.Proofs.YtccjfmjgkkpndaaDoor.Ty
