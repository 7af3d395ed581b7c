/-
  Arguments of the laws of disk opened: a step by value; a script.
  A step by value, with what its parts weigh.
-/
import Derived.Test.YtfkdkdkdpenblaaZH
import Derived.Test.YtfkdkdkdpenblaaZG
import Derived.Test.YtfkdkdkdpenblaaVL
import Derived.SizedLaws
namespace Go.Proofs.Ytfkdkdkdpenblaa
open Go.RowKit Go.ChangeShapes Go.WideShapes Go.ChangeAt Go.Deep
open Ig (nth)
section
variable {H : Type} {enc : TypeId × Value → H} {W : World}
theorem Dk.nth_take (zs : List Int) (len i : Nat) (h : i < len) : nth (zs.take len) i = zs.getD i 0 := by
  unfold nth
  rw [List.getD, List.getD, List.getElem?_take_of_lt h]
/-- A slice of numbers. -/
theorem Dk.open_keep {a0 : Option Addr} {len cap : Nat} {d : DataW H} {ps : List MemPlace} (h : DataW.Trod enc Try.prog W 0 (fun _ => true) true 31 (.slice a0 len cap) d ps) :
    ∃ L : List Int, L.length = len ∧ Ig.At W.heap.size W (.slice a0 len cap) L ∧ Bt.Long d len := by
  obtain ⟨fuel, hf⟩ := h
  rcases open_ints Try.underlying31 Try.underlying3 (by kernel_rfl) hf with ⟨hcs, hx⟩ | ⟨a, len', cap', zs, hcs, _, hl, hm, hz, hx, hcell, hwz⟩
  · have hv : Value.slice a0 len cap = .slice none 0 0 := by simpa [Value.cells] using hcs
    simp only [Value.slice.injEq] at hv
    obtain ⟨rfl, rfl, rfl⟩ := hv
    simp only [Prod.mk.injEq] at hx
    exact ⟨[], rfl, ⟨none, 0, rfl, Nat.le_refl _, Nat.le_refl _, .inl rfl⟩, .inl ⟨hx.1, rfl⟩⟩
  · have hv : Value.slice a0 len cap = .slice (some a) len' cap' := by simpa [Value.cells] using hcs
    simp only [Value.slice.injEq] at hv
    obtain ⟨rfl, rfl, rfl⟩ := hv
    simp only [if_true] at hz
    simp only [Prod.mk.injEq] at hx
    have hlen : (zs.take len).length = len := by rw [List.length_take]; omega
    have hsl := Bt.sl_of (W := W) (a := a) (len := len) (cap := cap) (f := fun i => .int .i64 (nth (zs.take len) i)) (fun i hi => by rw [hcell i (by omega)]; simp only [Dk.nth_take zs len i hi])
    refine ⟨zs.take len, hlen, ?_, .inr ⟨_, _, hx.1, ?_⟩⟩
    · obtain ⟨a2, c2, e, h2⟩ := hsl
      simp only [Value.slice.injEq] at e
      obtain ⟨rfl, _, rfl⟩ := e
      refine ⟨_, cap, by rw [hlen], by omega, Nat.le_refl _, ?_⟩
      rcases h2 with h2 | ⟨b, o, e2, hlt, h2⟩
      · exact .inl (List.eq_nil_of_length_eq_zero (by omega))
      · exact .inr ⟨b, o, e2, hlt, fun i hi => h2 i (by omega)⟩
    · simp only [lits, List.length_map, List.length_take]
      omega
/-- What a step's parts have of bulk. -/
structure Dk.Small (x : Dk.Step) (n : Nat) : Prop where
  a : x.a.length ≤ n
  b : x.b.length ≤ n
  keep : x.keep.length ≤ n
set_option maxRecDepth 100000 in
theorem Dk.open_cells {fuel : Nat} {cs : List Value} {z : DataW H × List MemPlace} (h : DataW.trod enc Try.prog W 0 (fun _ => true) true fuel 33 cs = some z) :
    ∃ (x : Dk.Step) (vK : Value), cs = [.int .i64 x.k, .string (Ty.S x.a), .string (Ty.S x.b), .int .i64 x.n, vK] ∧ Ig.At W.heap.size W vK x.keep ∧ Ty.I64 x.n ∧ Dk.Small x (Rows.uptoBulk z.1) ∧
      ∃ dK : DataW H, z.1 = .agg [.lit (.int .i64 x.k), .lit (.string x.a), .lit (.string x.b), .lit (.int .i64 x.n), dK] := by
  obtain ⟨xs, f', _, hx, hcl, hxl, hg⟩ := DataW.trod_struct Try.underlying33 h
  have hC : Try.prog.cellsOf 33 = 5 := by kernel_rfl
  have i3 : Try.prog.cellsOf 3 = 1 := by kernel_rfl
  have i9 : Try.prog.cellsOf 9 = 1 := by kernel_rfl
  have ik : Try.prog.cellsOf 31 = 1 := by kernel_rfl
  rw [hC] at hcl
  match cs, hcl, xs, hxl with
  | [c0, c1, c2, c3, c4], _, [y0, y1, y2, y3, y4], _ =>
    have g0 : DataW.trod enc Try.prog W 0 (fun _ => true) true f' 3 ((List.drop 0 [c0, c1, c2, c3, c4]).take (Try.prog.cellsOf 3)) = some y0 := hg 0 _ rfl
    have g1 : DataW.trod enc Try.prog W 0 (fun _ => true) true f' 9 ((List.drop 1 [c0, c1, c2, c3, c4]).take (Try.prog.cellsOf 9)) = some y1 := hg 1 _ rfl
    have g2 : DataW.trod enc Try.prog W 0 (fun _ => true) true f' 9 ((List.drop 2 [c0, c1, c2, c3, c4]).take (Try.prog.cellsOf 9)) = some y2 := hg 2 _ rfl
    have g3 : DataW.trod enc Try.prog W 0 (fun _ => true) true f' 3 ((List.drop 3 [c0, c1, c2, c3, c4]).take (Try.prog.cellsOf 3)) = some y3 := hg 3 _ rfl
    have g4 : DataW.trod enc Try.prog W 0 (fun _ => true) true f' 31 ((List.drop 4 [c0, c1, c2, c3, c4]).take (Try.prog.cellsOf 31)) = some y4 := hg 4 _ rfl
    rw [i3] at g0 g3
    rw [i9] at g1 g2
    rw [ik] at g4
    obtain ⟨k, e0, r0, w0⟩ := DataW.trod_int Try.underlying3 (show DataW.trod enc Try.prog W 0 (fun _ => true) true f' 3 [c0] = some y0 from g0)
    obtain ⟨sa, e1, r1, _⟩ := DataW.trod_string Try.underlying9 (show DataW.trod enc Try.prog W 0 (fun _ => true) true f' 9 [c1] = some y1 from g1)
    obtain ⟨sb, e2, r2, _⟩ := DataW.trod_string Try.underlying9 (show DataW.trod enc Try.prog W 0 (fun _ => true) true f' 9 [c2] = some y2 from g2)
    obtain ⟨n, e3, r3, w3⟩ := DataW.trod_int Try.underlying3 (show DataW.trod enc Try.prog W 0 (fun _ => true) true f' 3 [c3] = some y3 from g3)
    have g4 : DataW.trod enc Try.prog W 0 (fun _ => true) true f' 31 [c4] = some y4 := g4
    have hs : ∃ a0 len cap, c4 = .slice a0 len cap := by
      rcases open_slice Try.underlying31 g4 with ⟨hc, _⟩ | ⟨a, len', cap', _, _, _, _, hc, _⟩
      · exact ⟨none, 0, 0, by simpa using hc⟩
      · exact ⟨some a, len', cap', by simpa using hc⟩
    obtain ⟨a0, len, cap, rfl⟩ := hs
    obtain ⟨L, hL, hat, hlong⟩ := Dk.open_keep (W := W) (enc := enc) (d := y4.1) (ps := y4.2) ⟨f', g4⟩
    simp only [List.cons.injEq, and_true] at e0 e1 e2 e3
    subst e0 e1 e2 e3 r0 r1 r2 r3
    have hx1 : z.1 = _ := congrArg Prod.fst hx
    have hb := hlong.bulk
    refine ⟨⟨k, sa.data.toList, sb.data.toList, n, L⟩, .slice a0 len cap, rfl, hat, bounds_i64 w3, ?_, y4.1, hx1⟩
    rw [hx1]
    simp only [List.map_cons, List.map_nil, Rows.uptoBulk, Rows.uptoBulkAll]
    refine ⟨?_, ?_, ?_⟩
    · show sa.data.toList.length ≤ _; omega
    · show sb.data.toList.length ≤ _; omega
    · show L.length ≤ _; omega
set_option maxRecDepth 100000 in
/-- A step, handed over. -/
theorem Dk.open_op {v : Value} {d : DataW H} {ps : List MemPlace} {r : Reach} {b0 : Nat} (hv : Value.okWide Try.prog W r b0 33 v) (h : DataW.Trod enc Try.prog W 0 (fun _ => true) true 33 v d ps) :
    ∃ (x : Dk.Step) (vK : Value), v = .agg #[.int .i64 x.k, .string (Ty.S x.a), .string (Ty.S x.b), .int .i64 x.n, vK] ∧ Ig.At W.heap.size W vK x.keep ∧ Ty.I64 x.n ∧ Dk.Small x (Rows.uptoBulk d) ∧
      ∃ dK : DataW H, d = .agg [.lit (.int .i64 x.k), .lit (.string x.a), .lit (.string x.b), .lit (.int .i64 x.n), dK] := by
  obtain ⟨cs0, rfl, _⟩ := okWide_struct Try.underlying33 hv
  obtain ⟨fuel, hf⟩ := h
  obtain ⟨x, vK, hx, hat, hn, hs, hd⟩ := Dk.open_cells hf
  have e : cs0.toList = [.int .i64 x.k, .string (Ty.S x.a), .string (Ty.S x.b), .int .i64 x.n, vK] := hx
  refine ⟨x, vK, ?_, hat, hn, hs, hd⟩
  rw [← Array.toArray_toList (xs := cs0), e]
theorem Dk.bulk_mem {ds : List (DataW H)} {d : DataW H} (h : d ∈ ds) : Rows.uptoBulk d ≤ Rows.uptoBulkAll ds := by
  induction ds with
  | nil => cases h
  | cons a ds ih =>
    rcases List.mem_cons.1 h with rfl | h
    · simp only [Rows.uptoBulkAll]; omega
    · have := ih h
      simp only [Rows.uptoBulkAll]; omega
set_option maxRecDepth 100000 in
/-- A script, handed over. -/
theorem Dk.open_ops {a0 : Option Addr} {len cap : Nat} {d : DataW H} {ps : List MemPlace} (h : DataW.Trod enc Try.prog W 0 (fun _ => true) true 22 (.slice a0 len cap) d ps) :
    ∃ L : List Dk.Step, L.length = len ∧ Dk.Ops W.heap.size W (.slice a0 len cap) L ∧ (∀ x ∈ L, Ty.I64 x.n ∧ Dk.Small x (Rows.uptoBulk d)) ∧ len ≤ Rows.uptoBulk d := by
  obtain ⟨fuel, hf⟩ := h
  have hC : Try.prog.cellsOf 33 = 5 := by kernel_rfl
  rcases open_slice Try.underlying22 hf with ⟨hcs, hx⟩ | ⟨a, len', cap', m, n, D, Pl, hcs, _, hl, hm, hmm, hx, hi⟩
  · have hv : Value.slice a0 len cap = .slice none 0 0 := by simpa [Value.cells] using hcs
    simp only [Value.slice.injEq] at hv
    obtain ⟨rfl, rfl, rfl⟩ := hv
    exact ⟨[], rfl, ⟨⟨none, 0, rfl, Nat.le_refl _, Nat.le_refl _, .inl ⟨rfl, fun _ => rfl⟩⟩⟩, by simp, Nat.zero_le _⟩
  · have hv : Value.slice a0 len cap = .slice (some a) len' cap' := by simpa [Value.cells] using hcs
    simp only [Value.slice.injEq] at hv
    obtain ⟨rfl, rfl, rfl⟩ := hv
    simp only [if_true] at hmm
    simp only [Prod.mk.injEq] at hx
    have hlong : len ≤ Rows.uptoBulk d := Bt.Long.bulk (.inr ⟨_, _, hx.1, by simp⟩)
    by_cases hz : len = 0
    · subst hz
      exact ⟨[], rfl, ⟨⟨some a, cap, rfl, Nat.zero_le _, Nat.le_refl _, .inl ⟨rfl, fun e => by cases e⟩⟩⟩, by simp, Nat.zero_le _⟩
    · rw [hC] at hi
      have hone : ∀ i, i < len → ∃ x : Dk.Step, ((W.cell? (a.add (i * 5)) = some (.int .i64 x.k) ∧ W.cell? (a.add (i * 5 + 1)) = some (.string (Ty.S x.a)) ∧ W.cell? (a.add (i * 5 + 2)) = some (.string (Ty.S x.b)) ∧ W.cell? (a.add (i * 5 + 3)) = some (.int .i64 x.n) ∧
          ∃ vK, W.cell? (a.add (i * 5 + 4)) = some vK ∧ Ig.At W.heap.size W vK x.keep)) ∧ Ty.I64 x.n ∧ Dk.Small x (Rows.uptoBulk (D i)) := fun i hil => by
        obtain ⟨cs', hc, ht⟩ := hi i (by omega)
        obtain ⟨x, vK, rfl, hat', hn, hs, _⟩ := Dk.open_cells ht
        obtain ⟨_, _, hat⟩ := World.cells?_some hc
        have a0 := hat 0 (by omega)
        have a1 := hat 1 (by omega)
        have a2 := hat 2 (by omega)
        have a3 := hat 3 (by omega)
        have a4 := hat 4 (by omega)
        rw [add_add] at a0 a1 a2 a3 a4
        exact ⟨x, ⟨a0, a1, a2, a3, vK, a4, hat'⟩, hn, hs⟩
      obtain ⟨b, off, spot⟩ := a
      have hspot : spot = none := by
        obtain ⟨x, ⟨h0, _⟩, _⟩ := hone 0 (by omega)
        simpa [Addr.add] using World.cell?_spot h0
      subst hspot
      have hlt : b < W.heap.size := by
        obtain ⟨x, ⟨h0, _⟩, _⟩ := hone 0 (by omega)
        have := World.block_lt_of_cell? W _ h0
        simpa [Addr.add] using this
      have hch : ∃ f : Nat → Dk.Step, ∀ i, i < len → (W.cell? ⟨b, off + i * 5, none⟩ = some (.int .i64 (f i).k) ∧ W.cell? ⟨b, off + i * 5 + 1, none⟩ = some (.string (Ty.S (f i).a)) ∧ W.cell? ⟨b, off + i * 5 + 2, none⟩ = some (.string (Ty.S (f i).b)) ∧ W.cell? ⟨b, off + i * 5 + 3, none⟩ = some (.int .i64 (f i).n) ∧
          ∃ vK, W.cell? ⟨b, off + i * 5 + 4, none⟩ = some vK ∧ Ig.At W.heap.size W vK (f i).keep) ∧ Ty.I64 (f i).n ∧ Dk.Small (f i) (Rows.uptoBulk (D i)) := by
        have hone' : ∀ i, i < len → ∃ x : Dk.Step, (W.cell? ⟨b, off + i * 5, none⟩ = some (.int .i64 x.k) ∧ W.cell? ⟨b, off + i * 5 + 1, none⟩ = some (.string (Ty.S x.a)) ∧ W.cell? ⟨b, off + i * 5 + 2, none⟩ = some (.string (Ty.S x.b)) ∧ W.cell? ⟨b, off + i * 5 + 3, none⟩ = some (.int .i64 x.n) ∧
            ∃ vK, W.cell? ⟨b, off + i * 5 + 4, none⟩ = some vK ∧ Ig.At W.heap.size W vK x.keep) ∧ Ty.I64 x.n ∧ Dk.Small x (Rows.uptoBulk (D i)) := fun i hil => by
          obtain ⟨x, ⟨h0, h1, h2, h3, vK, h4, h5⟩, h6⟩ := hone i hil
          rw [add_plain] at h0 h1 h2 h3 h4
          rw [← Nat.add_assoc] at h1 h2 h3 h4
          exact ⟨x, ⟨h0, h1, h2, h3, vK, h4, h5⟩, h6⟩
        refine ⟨fun i => if hil : i < len then (hone' i hil).choose else ⟨0, [], [], 0, []⟩, fun i hil => ?_⟩
        have hs := (hone' i hil).choose_spec
        simp only [dif_pos hil]
        exact hs
      obtain ⟨f, hf'⟩ := hch
      refine ⟨(List.range len).map f, by simp, ⟨⟨some ⟨b, off, none⟩, cap, by simp, by simpa using hl, Nat.le_refl _, .inr ⟨b, off, rfl, hlt, fun i x hix => ?_⟩⟩⟩, fun x hxm => ?_, hlong⟩
      · rw [List.getElem?_map, Option.map_eq_some_iff] at hix
        obtain ⟨i', hi', rfl⟩ := hix
        obtain ⟨hil, rfl⟩ := List.getElem?_eq_some_iff.1 hi'
        rw [List.getElem_range]
        rw [List.length_range] at hil
        exact (hf' i hil).1
      · obtain ⟨i, hi', rfl⟩ := List.mem_map.1 hxm
        have hil := List.mem_range.1 hi'
        obtain ⟨_, h1, h2⟩ := hf' i hil
        have hle : Rows.uptoBulk (D i) ≤ Rows.uptoBulk d := by
          rw [hx.1]
          simp only [Rows.uptoBulk]
          have := Dk.bulk_mem (ds := (List.range len).map D) (List.mem_map.2 ⟨i, hi', rfl⟩)
          omega
        exact ⟨h1, Nat.le_trans h2.a hle, Nat.le_trans h2.b hle, Nat.le_trans h2.keep hle⟩
/-- A string's letters. -/
def Dk.letters : DataW H → Dk.Str
  | .lit (.string b) => b
  | _ => []
theorem Dk.letters_le (d : DataW H) : (Dk.letters d).length ≤ Rows.uptoBulk d := by
  unfold Dk.letters
  split
  · simp only [Rows.uptoBulk]; omega
  · exact Nat.zero_le _
/-- A slice of strings, each no longer than the bulk. -/
theorem Dk.open_texts {a0 : Option Addr} {len cap : Nat} {d : DataW H} {ps : List MemPlace} (h : DataW.Trod enc Try.prog W 0 (fun _ => true) true 39 (.slice a0 len cap) d ps) :
    ∃ L : List Dk.Str, L.length = len ∧ Tx.At W.heap.size W (.slice a0 len cap) L ∧ (∀ s ∈ L, s.length ≤ Rows.uptoBulk d) ∧ len ≤ Rows.uptoBulk d := by
  obtain ⟨fuel, hf⟩ := h
  have hC : Try.prog.cellsOf 9 = 1 := by kernel_rfl
  rcases open_slice Try.underlying39 hf with ⟨hcs, hx⟩ | ⟨a, len', cap', m, n, D, Pl, hcs, _, hl, hm, hmm, hx, hi⟩
  · have hv : Value.slice a0 len cap = .slice none 0 0 := by simpa [Value.cells] using hcs
    simp only [Value.slice.injEq] at hv
    obtain ⟨rfl, rfl, rfl⟩ := hv
    exact ⟨[], rfl, Tx.At.nil W, by simp, Nat.zero_le _⟩
  · have hv : Value.slice a0 len cap = .slice (some a) len' cap' := by simpa [Value.cells] using hcs
    simp only [Value.slice.injEq] at hv
    obtain ⟨rfl, rfl, rfl⟩ := hv
    simp only [if_true] at hmm
    rw [hC] at hi
    simp only [Prod.mk.injEq] at hx
    have hlong : len ≤ Rows.uptoBulk d := Bt.Long.bulk (.inr ⟨_, _, hx.1, by simp⟩)
    have hL : ∀ i, i < len → W.cell? (a.add i) = some (Tx.sv ((List.range len).map fun i => Dk.letters (D i)) i) := fun i hil => by
      obtain ⟨cs', hc, ht⟩ := hi i (by omega)
      obtain ⟨hcl, _, hat⟩ := World.cells?_some hc
      match cs', hcl with
      | [c0], _ =>
        obtain ⟨s, e2, e3, _⟩ := DataW.trod_string Try.underlying9 ht
        simp only [List.cons.injEq, and_true] at e2
        subst e2
        have a0 := hat 0 (by omega)
        rw [add_add] at a0
        simp only [Nat.mul_one, Nat.add_zero] at a0
        unfold Tx.sv
        rw [List.getD_eq_getElem?_getD, List.getElem?_map, List.getElem?_range hil]
        simp only [Prod.mk.injEq] at e3
        simp only [Option.map_some, Option.getD_some, e3.1, Dk.letters]
        exact a0
    have hsl := Bt.sl_of (W := W) (a := a) (len := len) (cap := cap) (f := Tx.sv _) hL
    refine ⟨(List.range len).map fun i => Dk.letters (D i), by simp, ?_, fun s hs => ?_, hlong⟩
    · obtain ⟨a2, c2, e, h2⟩ := hsl
      simp only [Value.slice.injEq] at e
      obtain ⟨rfl, _, rfl⟩ := e
      refine ⟨some a, cap, by simp, by simpa using hl, Nat.le_refl _, ?_⟩
      rcases h2 with h2 | ⟨b, o, e2, hlt, h2⟩
      · exact .inl ⟨List.eq_nil_of_length_eq_zero (by simpa using h2), fun e => by cases e⟩
      · exact .inr ⟨b, o, e2, hlt, fun i hi => h2 i (by simpa using hi)⟩
    · obtain ⟨i, hi', rfl⟩ := List.mem_map.1 hs
      have h1 := Dk.letters_le (D i)
      rw [hx.1]
      simp only [Rows.uptoBulk]
      have := Dk.bulk_mem (ds := (List.range len).map D) (List.mem_map.2 ⟨i, hi', rfl⟩)
      omega
theorem Dk.Small.ok {x : Dk.Step} {n : Nat} (h : Dk.Small x n) (hn : n ≤ 1048576) : x.Ok := ⟨Nat.le_trans h.a hn, Nat.le_trans h.b hn, Nat.le_trans h.keep hn⟩
end
end Go.Proofs.Ytfkdkdkdpenblaa

namespace Go.Proofs.Ytfkdkdkdpenblaa
open Go.RowKit Go.ChangeShapes Go.WideShapes Go.ChangeAt Go.Deep
open Ig (nth)
section
variable {H : Type} {enc : TypeId × Value → H} {W : World}
set_option maxRecDepth 100000 in
theorem Dk.open_cellsL {fuel : Nat} {cs : List Value} {z : DataW H × List MemPlace} (h : DataW.trod enc Try.prog W 0 (fun _ => true) true fuel 33 cs = some z) :
    ∃ (x : Dk.Step) (vK : Value), cs = [.int .i64 x.k, .string (Ty.S x.a), .string (Ty.S x.b), .int .i64 x.n, vK] ∧ Ig.At W.heap.size W vK x.keep ∧ Ty.I64 x.n ∧
      ∃ dK : DataW H, z.1 = .agg [.lit (.int .i64 x.k), .lit (.string x.a), .lit (.string x.b), .lit (.int .i64 x.n), dK] ∧ Bt.Long dK x.keep.length := by
  obtain ⟨xs, f', _, hx, hcl, hxl, hg⟩ := DataW.trod_struct Try.underlying33 h
  have hC : Try.prog.cellsOf 33 = 5 := by kernel_rfl
  have i3 : Try.prog.cellsOf 3 = 1 := by kernel_rfl
  have i9 : Try.prog.cellsOf 9 = 1 := by kernel_rfl
  have ik : Try.prog.cellsOf 31 = 1 := by kernel_rfl
  rw [hC] at hcl
  match cs, hcl, xs, hxl with
  | [c0, c1, c2, c3, c4], _, [y0, y1, y2, y3, y4], _ =>
    have g0 : DataW.trod enc Try.prog W 0 (fun _ => true) true f' 3 ((List.drop 0 [c0, c1, c2, c3, c4]).take (Try.prog.cellsOf 3)) = some y0 := hg 0 _ rfl
    have g1 : DataW.trod enc Try.prog W 0 (fun _ => true) true f' 9 ((List.drop 1 [c0, c1, c2, c3, c4]).take (Try.prog.cellsOf 9)) = some y1 := hg 1 _ rfl
    have g2 : DataW.trod enc Try.prog W 0 (fun _ => true) true f' 9 ((List.drop 2 [c0, c1, c2, c3, c4]).take (Try.prog.cellsOf 9)) = some y2 := hg 2 _ rfl
    have g3 : DataW.trod enc Try.prog W 0 (fun _ => true) true f' 3 ((List.drop 3 [c0, c1, c2, c3, c4]).take (Try.prog.cellsOf 3)) = some y3 := hg 3 _ rfl
    have g4 : DataW.trod enc Try.prog W 0 (fun _ => true) true f' 31 ((List.drop 4 [c0, c1, c2, c3, c4]).take (Try.prog.cellsOf 31)) = some y4 := hg 4 _ rfl
    rw [i3] at g0 g3
    rw [i9] at g1 g2
    rw [ik] at g4
    obtain ⟨k, e0, r0, w0⟩ := DataW.trod_int Try.underlying3 (show DataW.trod enc Try.prog W 0 (fun _ => true) true f' 3 [c0] = some y0 from g0)
    obtain ⟨sa, e1, r1, _⟩ := DataW.trod_string Try.underlying9 (show DataW.trod enc Try.prog W 0 (fun _ => true) true f' 9 [c1] = some y1 from g1)
    obtain ⟨sb, e2, r2, _⟩ := DataW.trod_string Try.underlying9 (show DataW.trod enc Try.prog W 0 (fun _ => true) true f' 9 [c2] = some y2 from g2)
    obtain ⟨n, e3, r3, w3⟩ := DataW.trod_int Try.underlying3 (show DataW.trod enc Try.prog W 0 (fun _ => true) true f' 3 [c3] = some y3 from g3)
    have g4 : DataW.trod enc Try.prog W 0 (fun _ => true) true f' 31 [c4] = some y4 := g4
    have hs : ∃ a0 len cap, c4 = .slice a0 len cap := by
      rcases open_slice Try.underlying31 g4 with ⟨hc, _⟩ | ⟨a, len', cap', _, _, _, _, hc, _⟩
      · exact ⟨none, 0, 0, by simpa using hc⟩
      · exact ⟨some a, len', cap', by simpa using hc⟩
    obtain ⟨a0, len, cap, rfl⟩ := hs
    obtain ⟨L, hL, hat, hlong⟩ := Dk.open_keep (W := W) (enc := enc) (d := y4.1) (ps := y4.2) ⟨f', g4⟩
    simp only [List.cons.injEq, and_true] at e0 e1 e2 e3
    subst e0 e1 e2 e3 r0 r1 r2 r3
    have hx1 : z.1 = _ := congrArg Prod.fst hx
    refine ⟨⟨k, sa.data.toList, sb.data.toList, n, L⟩, .slice a0 len cap, rfl, hat, bounds_i64 w3, y4.1, hx1, ?_⟩
    show Bt.Long y4.1 L.length
    rw [hL]
    exact hlong
set_option maxRecDepth 100000 in
/-- A step, handed over. -/
theorem Dk.open_opL {v : Value} {d : DataW H} {ps : List MemPlace} {r : Reach} {b0 : Nat} (hv : Value.okWide Try.prog W r b0 33 v) (h : DataW.Trod enc Try.prog W 0 (fun _ => true) true 33 v d ps) :
    ∃ (x : Dk.Step) (vK : Value), v = .agg #[.int .i64 x.k, .string (Ty.S x.a), .string (Ty.S x.b), .int .i64 x.n, vK] ∧ Ig.At W.heap.size W vK x.keep ∧ Ty.I64 x.n ∧
      ∃ dK : DataW H, d = .agg [.lit (.int .i64 x.k), .lit (.string x.a), .lit (.string x.b), .lit (.int .i64 x.n), dK] ∧ Bt.Long dK x.keep.length := by
  obtain ⟨cs0, rfl, _⟩ := okWide_struct Try.underlying33 hv
  obtain ⟨fuel, hf⟩ := h
  obtain ⟨x, vK, hx, hat, hn, hd⟩ := Dk.open_cellsL hf
  have e : cs0.toList = [.int .i64 x.k, .string (Ty.S x.a), .string (Ty.S x.b), .int .i64 x.n, vK] := hx
  refine ⟨x, vK, ?_, hat, hn, hd⟩
  rw [← Array.toArray_toList (xs := cs0), e]
set_option maxRecDepth 100000 in
theorem Dk.op_sized {ts : List TypeId} {ds : List (DataW H)} (h : (DataW.weightsEach Try.prog ts ds).all (· ≤ reachBytes) = true) {j : Nat} (ht : ts[j]? = some 33) {k n : Int} {a b : Dk.Str} {dK : DataW H} {m : Nat}
    (hd : ds[j]? = some (.agg [.lit (.int .i64 k), .lit (.string a), .lit (.string b), .lit (.int .i64 n), dK])) (hl : Bt.Long dK m) : (a.length ≤ 140737488351232 ∧ b.length ≤ 140737488351232) ∧ m ≤ 140737488355328 := by
  have key : ∀ u, u ∈ DataW.weights Try.prog 33 (.agg [.lit (.int .i64 k), .lit (.string a), .lit (.string b), .lit (.int .i64 n), dK]) → u ≤ 140737488351232 := fun u hu => by
    have := List.all_eq_true.1 h u (DataW.weights_mem_each ht hd u hu)
    exact of_decide_eq_true this
  have h1 : a.length ≤ 140737488351232 := key _ (by simp [DataW.weights, Try.underlying33, DataW.weightsEach])
  have h2 : b.length ≤ 140737488351232 := key _ (by simp [DataW.weights, Try.underlying33, DataW.weightsEach])
  refine ⟨⟨h1, h2⟩, ?_⟩
  rcases hl with ⟨_, rfl⟩ | ⟨es, sp, rfl, hm⟩
  · exact Nat.zero_le _
  · have h3 : (es.length + sp.length) * Try.prog.bytesOf 3 ≤ 140737488351232 := key _ (by simp [DataW.weights, Try.underlying33, Try.underlying31, DataW.weightsEach])
    have h8 : Try.prog.bytesOf 3 = 8 := by kernel_rfl
    rw [h8] at h3
    omega
end
end Go.Proofs.Ytfkdkdkdpenblaa
