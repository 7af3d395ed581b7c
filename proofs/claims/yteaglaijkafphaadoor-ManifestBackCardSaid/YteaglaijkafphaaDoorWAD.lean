import Derived.Test.YteaglaijkafphaaDoorWAC
import Derived.BigQuiet
import Derived.Deep.QuietTactic
import Derived.Laws.ResultCell
import Derived.Maps.OwnOps
import Derived.Maps.OwnSet
import Derived.Maps.RangeWalk
import Derived.Sort.KeysCollected
import Derived.Deep.RegionHeld3
import Derived.Deep.OwnRows
namespace Go.Proofs.YteaglaijkafphaaDoor
section
open Go.RowKit
abbrev Mf.sv (v : Value) (s : Mf.S) : Value := .agg #[v, .int .i64 s.floor, .int .i64 s.next]
structure Mf.SA (w : World) (b : Nat) (v : Value) (f n : Int) : Prop where
 c0 : w.cell? ⟨b, 0, none⟩ = some v
 c1 : w.cell? ⟨b, 1, none⟩ = some (.int .i64 f)
 c2 : w.cell? ⟨b, 2, none⟩ = some (.int .i64 n)
theorem Mf.SA.lt {w : World} {b : Nat} {v : Value} {f n : Int} (h : Mf.SA w b v f n) : b < w.heap.size := World.block_lt_of_cell? w _ h.c0
theorem Mf.SA.kept {w w' : World} {b : Nat} {v : Value} {f n : Int} (h : Mf.SA w b v f n) (g : Below w.heap.size w w') : Mf.SA w' b v f n :=
 ⟨(g.cell (p := ⟨b, 0, none⟩) h.lt).trans h.c0, (g.cell (p := ⟨b, 1, none⟩) h.lt).trans h.c1, (g.cell (p := ⟨b, 2, none⟩) h.lt).trans h.c2⟩
theorem Mf.SA.new (w : World) (v : Value) (f n : Int) (t : TypeId) : Mf.SA (w.alloc (.cells #[v, .int .i64 f, .int .i64 n] t)) w.heap.size v f n :=
 ⟨Kn.cell_new w _ t 0 _ rfl, Kn.cell_new w _ t 1 _ rfl, Kn.cell_new w _ t 2 _ rfl⟩
theorem Mf.Ps.at_ {w : World} {a : Option Addr} {L : List Mf.P} {c : Nat} (h : Mf.Ps w (.slice a L.length c) L) {i : Nat} {p : Mf.P} (hp : L[i]? = some p) : ∃ b o, a = some ⟨b, o, none⟩ ∧ Mf.PA w b (o + i * 8) p := by
 obtain ⟨a', c', e, -, h⟩ := h
 simp only [Value.slice.injEq, true_and] at e
 obtain ⟨rfl, rfl⟩ := e
 rcases h with ⟨h0, -⟩ | ⟨b, o, cs, fr, rfl, -, _, h⟩
 ·rw [h0] at hp; cases hp
 ·exact ⟨b, o, rfl, Mf.Ps.part h hp⟩
theorem Mf.Ps.form {w : World} {v : Value} {L : List Mf.P} (h : Mf.Ps w v L) : ∃ a c, v = .slice a L.length c ∧ L.length ≤ c := by
 obtain ⟨a, c, rfl, hc, -⟩ := h
 exact ⟨a, c, rfl, hc⟩
set_option maxHeartbeats 2000000 in
set_option maxRecDepth 100000 in
theorem Mf.equal_c (v u : Value) (L : List Mf.P) (w : World) (hv : Mf.Ps w v L) (hu : Mf.Ps w u L) (hl : L.length ≤ 9223372036854775000) :
 Calls Tryd.prog 23 #[v, u] w fun e w' => e = .returned (.bool true) ∧ Below w.heap.size w w' := by
 have HV := Lib.hid hv
 have HU := Lib.hid hu
 obtain ⟨a, c, rfl, -⟩ := hv.form
 obtain ⟨a2, c2, rfl, -⟩ := hu.form
 have hz : ((L.length : Int) != (L.length : Int)) = false := by simp
 clear hv hu
 go_enter Tryd.func23, Tryd.ntmps23
 go_wp2
 go_loopw [13] (fun i wr => ∃ k : Nat, k ≤ L.length ∧ i = .int .i64 k ∧ ∃ n, wr = w.drewN n) (fun i _ => L.length - (intOf i).toNat)
 case atStart => exact ⟨0, Nat.zero_le _, rfl, 0, rfl⟩
 case round =>
  obtain ⟨k, hk, rfl, n, rfl⟩ := hrel
  have hk0 : (0 : Int) ≤ (k : Int) := by omega
  by_cases hkl : k < L.length
  ·have hx := List.getElem?_eq_getElem hkl
   generalize L[k] = p at hx
   obtain ⟨b, o, rfl, ⟨p0, p1, p2, p3, p4, p5, p6, p7⟩⟩ := HV.out.at_ hx
   obtain ⟨b2, o2, rfl, ⟨q0, q1, q2, q3, q4, q5, q6, q7⟩⟩ := HU.out.at_ hx
   have hki : (k : Int) < (L.length : Int) := by omega
   clear hx
   go_wp2_with fail
   go_quiet (fail)
   go_wp2
   go_roundw
   case rel => exact ⟨k + 1, by omega, by simp, by first | exact ⟨_, rfl⟩ | exact ⟨_, World.drewN_drewN _ _ _⟩⟩
   case measure => simp [intOf]; omega
  ·obtain rfl : k = L.length := by omega
   have hki : ¬ (L.length : Int) < (L.length : Int) := by omega
   go_wp2
   go_ret
   exact ⟨rfl, Kn.below_drewN (Below.refl _ _) _⟩
set_option maxHeartbeats 2000000 in
set_option maxRecDepth 100000 in
theorem Mf.same_c (v u : Value) (s : Mf.S) (w : World) (hv : Mf.Ps w v s.parts) (hu : Mf.Ps w u s.parts) (hl : s.parts.length ≤ 9223372036854775000) :
 Calls Tryd.prog 11 #[Mf.sv v s, Mf.sv u s] w fun e w' => e = .returned (.bool true) ∧ Below w.heap.size w w' := by
 obtain ⟨L, f, n⟩ := s
 unfold Mf.sv
 simp only at hv hu hl ⊢
 have hA : Below w.heap.size w (w.alloc (.cells #[v, .int .i64 f, .int .i64 n] 25)) := (Below.refl _ _).alloc (Nat.le_refl _) _
 have hA2 := (Below.refl (w.alloc (.cells #[v, .int .i64 f, .int .i64 n] 25)).heap.size (w.alloc (.cells #[v, .int .i64 f, .int .i64 n] 25))).alloc (Nat.le_refl _) (.cells #[u, .int .i64 f, .int .i64 n] 25)
 have hsz : (w.alloc (.cells #[v, .int .i64 f, .int .i64 n] 25)).heap.size = w.heap.size + 1 := World.size_alloc ..
 have a1 := (Mf.SA.new w v f n 25).kept hA2
 have a2 := Mf.SA.new (w.alloc (.cells #[v, .int .i64 f, .int .i64 n] 25)) u f n 25
 rw [hsz] at a2
 have HB := Lib.hid (hA.trans (hA2.mono hA.size))
 have ce := Mf.equal_c v u L _ (hv.kept HB.out) (hu.kept HB.out) hl
 obtain ⟨x0, x1, x2⟩ := a1
 obtain ⟨y0, y1, y2⟩ := a2
 obtain ⟨a, c, rfl, -⟩ := hv.form
 obtain ⟨a9, c9, rfl, -⟩ := hu.form
 clear hv hu hA hA2
 go_enter Tryd.func11, Tryd.ntmps11
 go_wp2_with fail
 with_reducible refine ce.mono ?_
 rintro e w1 ⟨rfl, g1⟩
 have HB1 := Lib.hid (HB.out.trans (g1.mono HB.out.size))
 go_wp2
 go_ret
 exact ⟨rfl, HB1.out⟩
set_option maxHeartbeats 2000000 in
set_option maxRecDepth 100000 in
theorem Mf.same_no (v u : Value) (f n m : Int) (hn : n ≠ m) (hv : ∃ a l c, v = .slice a l c) (hu : ∃ a l c, u = .slice a l c) (w : World) :
 Calls Tryd.prog 11 #[.agg #[v, .int .i64 f, .int .i64 n], .agg #[u, .int .i64 f, .int .i64 m]] w fun e w' => e = .returned (.bool false) ∧ Below w.heap.size w w' := by
 obtain ⟨a, l, c, rfl⟩ := hv
 obtain ⟨a9, l9, c9, rfl⟩ := hu
 have hA : Below w.heap.size w (w.alloc (.cells #[.slice a l c, .int .i64 f, .int .i64 n] 25)) := (Below.refl _ _).alloc (Nat.le_refl _) _
 have hA2 := (Below.refl (w.alloc (.cells #[.slice a l c, .int .i64 f, .int .i64 n] 25)).heap.size (w.alloc (.cells #[.slice a l c, .int .i64 f, .int .i64 n] 25))).alloc (Nat.le_refl _) (.cells #[.slice a9 l9 c9, .int .i64 f, .int .i64 m] 25)
 have hsz : (w.alloc (.cells #[.slice a l c, .int .i64 f, .int .i64 n] 25)).heap.size = w.heap.size + 1 := World.size_alloc ..
 have a1 := (Mf.SA.new w (.slice a l c) f n 25).kept hA2
 have a2 := Mf.SA.new (w.alloc (.cells #[.slice a l c, .int .i64 f, .int .i64 n] 25)) (.slice a9 l9 c9) f m 25
 rw [hsz] at a2
 have HB := Lib.hid (hA.trans (hA2.mono hA.size))
 obtain ⟨x0, x1, x2⟩ := a1
 obtain ⟨y0, y1, y2⟩ := a2
 have hne : (n == m) = false := beq_eq_false_iff_ne.2 hn
 clear hA hA2
 go_enter Tryd.func11, Tryd.ntmps11
 go_wp2
 go_ret
 exact ⟨rfl, HB.out⟩
set_option maxHeartbeats 2000000 in
set_option maxRecDepth 100000 in
theorem Mf.rsame_c (v u : Value) (s : Mf.S) (w : World) (hv : Mf.Ps w v s.parts) (hu : Mf.Ps w u s.parts) (hl : s.parts.length ≤ 9223372036854775000) :
 Calls Tryd.prog 8 #[Mf.sv v s, Mf.sv u s] w fun e w' => e = .returned (.bool true) ∧ Below w.heap.size w w' := by
 obtain ⟨L, f, n⟩ := s
 unfold Mf.sv
 simp only at hv hu hl ⊢
 have hA : Below w.heap.size w (w.alloc (.cells #[v, .int .i64 f, .int .i64 n] 25)) := (Below.refl _ _).alloc (Nat.le_refl _) _
 have hA2 := (Below.refl (w.alloc (.cells #[v, .int .i64 f, .int .i64 n] 25)).heap.size (w.alloc (.cells #[v, .int .i64 f, .int .i64 n] 25))).alloc (Nat.le_refl _) (.cells #[u, .int .i64 f, .int .i64 n] 25)
 have hsz : (w.alloc (.cells #[v, .int .i64 f, .int .i64 n] 25)).heap.size = w.heap.size + 1 := World.size_alloc ..
 have a1 := (Mf.SA.new w v f n 25).kept hA2
 have a2 := Mf.SA.new (w.alloc (.cells #[v, .int .i64 f, .int .i64 n] 25)) u f n 25
 rw [hsz] at a2
 have HB := Lib.hid (hA.trans (hA2.mono hA.size))
 have HV := Lib.hid (hv.kept HB.out)
 have HU := Lib.hid (hu.kept HB.out)
 obtain ⟨x0, x1, x2⟩ := a1
 obtain ⟨y0, y1, y2⟩ := a2
 obtain ⟨a, c, rfl, -⟩ := hv.form
 obtain ⟨a9, c9, rfl, -⟩ := hu.form
 have hz : ((L.length : Int) != (L.length : Int)) = false := by simp
 clear hv hu hA hA2
 go_enter Tryd.func8, Tryd.ntmps8
 go_wp2_with fail
 generalize hwo : (w.alloc _).alloc _ = w2 at x0 x1 x2 y0 y1 y2 HB HV HU ⊢
 clear hwo
 go_loopw [5] (fun i wr => ∃ k : Nat, k ≤ L.length ∧ i = .int .i64 k ∧ ∃ n, wr = w2.drewN n) (fun i _ => L.length - (intOf i).toNat)
 case atStart => exact ⟨0, Nat.zero_le _, rfl, 0, rfl⟩
 case round =>
  obtain ⟨k, hk, rfl, m, rfl⟩ := hrel
  have hk0 : (0 : Int) ≤ (k : Int) := by omega
  by_cases hkl : k < L.length
  ·have hx := List.getElem?_eq_getElem hkl
   generalize L[k] = p at hx
   obtain ⟨b, o, rfl, ⟨p0, p1, p2, p3, p4, p5, p6, p7⟩⟩ := HV.out.at_ hx
   obtain ⟨b2, o2, rfl, ⟨q0, q1, q2, q3, q4, q5, q6, q7⟩⟩ := HU.out.at_ hx
   have hki : (k : Int) < (L.length : Int) := by omega
   clear hx
   go_wp2_with fail
   go_quiet (fail)
   go_wp2
   go_roundw
   case rel => exact ⟨k + 1, by omega, by simp, by first | exact ⟨_, rfl⟩ | exact ⟨_, World.drewN_drewN _ _ _⟩⟩
   case measure => simp [intOf]; omega
  ·obtain rfl : k = L.length := by omega
   have hki : ¬ (L.length : Int) < (L.length : Int) := by omega
   go_wp2
   go_ret
   exact ⟨rfl, Kn.below_drewN HB.out _⟩
def Mf.atV (L : List Mf.P) (d : Int) : Int := match Mf.at_ L d with | none => -1 | some k => (k : Int)
end
section
open Go.RowKit
def Mf.Ow (base : Nat) (w : World) (v : Value) (L : List Mf.P) : Prop := Dk.Own 44 8 Mf.pc base w v L
theorem Mf.infoP : (Tryd.prog.info? 44).map (fun i => (i.zero, i.size, i.bytes)) = some (some (.agg #[.int .i64 0, .int .i64 0, .bool false, .int .i64 0, .string ⟨#[]⟩, .bool false, .int .i64 0, .string ⟨#[]⟩]), 8, 80) := by kernel_rfl
theorem Mf.infoI : (Tryd.prog.info? 3).map (fun i => (i.zero, i.size, i.bytes)) = some (some (.int .i64 0), 1, 8) := by kernel_rfl
theorem Mf.Ow.nil (base : Nat) (w : World) : Mf.Ow base w (.slice none 0 0) [] := Dk.Own.nil base w
theorem Mf.Ow.ps {base : Nat} {w : World} {v : Value} {L : List Mf.P} (h : Mf.Ow base w v L) : Mf.Ps w v L := Mf.At.of (Dk.Own.at Mf.pc_len h)
theorem Mf.Ow.kept {base : Nat} {w w' : World} {v : Value} {L : List Mf.P} (h : Mf.Ow base w v L) (g : Below w.heap.size w w') : Mf.Ow base w' v L := Dk.Own.kept h g
theorem Mf.Ps.src {w : World} {v : Value} {L : List Mf.P} (h : Mf.Ps w v L) : Dk.Src Mf.pc w v L := by
 obtain ⟨a, c, rfl, -, h⟩ := h
 rcases h with ⟨rfl, h0⟩ | ⟨b, o, cs, fr, rfl, -, _, h⟩
 ·cases a with
  | none => rw [h0 rfl]; exact .inl ⟨rfl, rfl⟩
  | some ad => exact .inr ⟨ad, c, rfl, fun j y hy => by simp at hy⟩
 ·exact .inr ⟨_, c, rfl, Dk.src_cells Mf.pc_len (by decide) h⟩
theorem Mf.at_off {base : Nat} {t : TypeId} {q : Nat} {w w' : World} {v : Value} {L : List Mf.P} {cs : Array Value} {f : Nat × Nat} (h : Mf.Ow base w v L) (hq : w.heap[q]? = some (.cells cs t f)) (ht : t ≠ 44) (g : ∀ b, b ≠ q → w'.heap[b]? = w.heap[b]?) : Mf.Ow base w' v L :=
 Dk.Own.same h fun b hb => g b fun e2 => by
  obtain ⟨cs9, hcs⟩ := Dk.Own.typed h b hb
  subst e2
  rw [hcs] at hq
  simp only [Option.some.injEq, Obj.cells.injEq] at hq
  exact ht hq.2.1.symm
theorem Mf.heap3 (w : World) (q : Nat) (x y z : Value) : ∀ b, b ≠ q → (((w.setCell ⟨q, 0, none⟩ x).setCell ⟨q, 1, none⟩ y).setCell ⟨q, 2, none⟩ z).heap[b]? = w.heap[b]? := fun b h =>
 (Below.heap_setCell _ _ _ _ (by show b ≠ q; exact h)).trans ((Below.heap_setCell _ _ _ _ (by show b ≠ q; exact h)).trans (Below.heap_setCell _ _ _ _ (by show b ≠ q; exact h)))
theorem Mf.below1 {B : Nat} {w w' : World} {q : Nat} (g : Below B w w') (h : B ≤ q) (i : Nat) (x : Value) : Below B w (w'.setCell ⟨q, i, none⟩ x) :=
 ⟨g.os, g.tape, g.output, by have := g.size; simpa [World.setCell] using this, fun b hb => (Below.heap_setCell _ _ _ _ (by show b ≠ q; omega)).trans (g.block b hb)⟩
theorem Mf.below3 {B : Nat} {w w' : World} {q : Nat} (g : Below B w w') (h : B ≤ q) (x y z : Value) : Below B w (((w'.setCell ⟨q, 0, none⟩ x).setCell ⟨q, 1, none⟩ y).setCell ⟨q, 2, none⟩ z) :=
 Mf.below1 (Mf.below1 (Mf.below1 g h _ _) h _ _) h _ _
theorem Mf.three {w : World} {q : Nat} {x y z : Value} {t : TypeId} (h : w.heap[q]? = some (.cells #[x, y, z] t (0, 0))) :
 (w.cell? ⟨q, 0, none⟩ = some x ∧ w.cell? ⟨q, 1, none⟩ = some y ∧ w.cell? ⟨q, 2, none⟩ = some z) ∧ w.frozen? ⟨q, 0, none⟩ = false ∧ w.frozen? ⟨q, 1, none⟩ = false ∧ w.frozen? ⟨q, 2, none⟩ = false := by
 refine ⟨⟨?_, ?_, ?_⟩, ?_, ?_, ?_⟩ <;> simp [World.cell?, World.frozen?, h]
def Mf.st (r : Option Mf.S) : Mf.S := match r with | none => ⟨[], 0, 0⟩ | some t => t
def Mf.er (r : Option Mf.S) : Int := match r with | none => 8 | some _ => 0
def Mf.GotS (w : World) (r : Option Mf.S) (e : Ending) (w' : World) : Prop := ∃ u, e = .returned (.tuple #[Mf.sv u (Mf.st r), .int .i64 (Mf.er r)]) ∧ Mf.Ow w.heap.size w' u (Mf.st r).parts ∧ Below w.heap.size w w'
theorem Mf.GotS.bad {w w' : World} {r : Option Mf.S} (h : r = none) (g : Below w.heap.size w w') : Mf.GotS w r (.returned (.tuple #[.agg #[.slice none 0 0, .int .i64 0, .int .i64 0], .int .i64 8])) w' := by
 subst h
 exact ⟨_, rfl, Mf.Ow.nil _ _, g⟩
theorem Mf.GotS.good {w w' : World} {r : Option Mf.S} {u : Value} {L : List Mf.P} {f n : Int} (h : r = some ⟨L, f, n⟩) (hu : Mf.Ow w.heap.size w' u L) (g : Below w.heap.size w w') : Mf.GotS w r (.returned (.tuple #[.agg #[u, .int .i64 f, .int .i64 n], .int .i64 0])) w' := by
 subst h
 exact ⟨u, rfl, hu, g⟩
theorem Mf.step_part {base : Nat} {w0 : World} {v : Value} {M : List Mf.P} (K : List Mf.P) (hb : base ≤ w0.heap.size) (hown : Mf.Ow base w0 v M) (hl : M.length + K.length ≤ 1500000000000)
 {ops : Array Oper} {o : Oper} {a : Act} {Kx : Act → World → Prop} {Q : Exit → Act → World → Prop} {E : Prop} (s x : Operand) (u : Value) (hgd : o.guard = none)
 (ho : o.op = .call { callee := .builtin .append, args := #[s, x], argTypes := #[23, 23] })
 (hs : a.eval s = v) (hx : a.eval x = u) (hu : Dk.Src Mf.pc w0 u K)
 (h : ∀ v' w', Mf.Ow base w' v' (M ++ K) → Ty.Grew w0 w' v v' → Kx (a.put o.dst v') w') :
 if Region.wanted o (yielded ops a.tmps) = true then Oper.wp Tryd.prog o a w0 Kx Q else E :=
 Dk.step_appendB 23 _ 80 Tryd.underlying23 Mf.infoP rfl (by decide) Mf.pc_len Mf.pc_one K hb hown (by omega) (by omega) s x u hgd ho hs hx hu h
theorem Mf.wpList_part {base : Nat} {w0 : World} {v : Value} {M : List Mf.P} (K : List Mf.P) (hown : Mf.Ow base w0 v M) (hb : base ≤ w0.heap.size) (hl : M.length + K.length ≤ 1500000000000) {u : Value} (hu : Dk.Src Mf.pc w0 u K)
 {ops : Array Oper} {rest : List Oper} {o : Oper} {a : Act} {Q : Exit → Act → World → Prop} (s x : Operand) (hgd : Region.wanted o (yielded ops a.tmps) = true)
 (ho : o.op = .call { callee := .builtin .append, args := #[s, x], argTypes := #[23, 23] })
 (hs : a.eval s = v) (hx : a.eval x = u)
 (h : ∀ v' w', Mf.Ow base w' v' (M ++ K) → Ty.Grew w0 w' v v' → wpList Tryd.prog ops Q rest (a.put o.dst v') w') :
 wpList Tryd.prog ops Q (o :: rest) a w0 :=
 Dk.wpList_append 23 _ 80 Tryd.underlying23 Mf.infoP rfl (by decide) Mf.pc_len Mf.pc_one K hown hb (by omega) (by omega) hu s x hgd ho hs hx h
theorem Mf.src_cs {w : World} {q : Nat} {p : Mf.P} (h : Mf.PA w q 0 p) : Dk.Src Mf.pc w (.slice (some ⟨q, 0, none⟩) 1 1) [p] := by
 refine Dk.src_cell fun j y hy => ?_
 obtain ⟨h0, h1, h2, h3, h4, h5, h6, h7⟩ := h
 match j, hy with
 | 0, hy => (obtain rfl := Option.some.inj hy; exact h0)
 | 1, hy => (obtain rfl := Option.some.inj hy; exact h1)
 | 2, hy => (obtain rfl := Option.some.inj hy; exact h2)
 | 3, hy => (obtain rfl := Option.some.inj hy; exact h3)
 | 4, hy => (obtain rfl := Option.some.inj hy; exact h4)
 | 5, hy => (obtain rfl := Option.some.inj hy; exact h5)
 | 6, hy => (obtain rfl := Option.some.inj hy; exact h6)
 | 7, hy => (obtain rfl := Option.some.inj hy; exact h7)
 | _ + 8, hy => cases hy
end
section
open Go.RowKit Go.Maps
def Mf.slR : Value → Option (DataW Value × List MemPlace)
 | .slice a n c => some (.held (.slice a n c), [])
 | _ => none
theorem Mf.slR_some {v z : Value} {ps : List MemPlace} (h : Mf.slR v = some (.held z, ps)) : v = z := by
 unfold Mf.slR at h
 split at h
 ·simp only [Option.some.injEq, Prod.mk.injEq, DataW.held.injEq] at h
  exact h.1
 ·cases h
theorem Mf.keyed : Keyed Tryd.prog 3 := int_keyed Tryd.underlying3
theorem Mf.wf {x : Int} (h : Ty.I64 x) : (Lit.int .i64 x).wf = true := by
 unfold Ty.I64 at h
 have h1 : IntKind.i64.min = -9223372036854775808 := rfl
 have h2 : IntKind.i64.max = 9223372036854775807 := rfl
 simp [Lit.wf, h1, h2]
 omega
theorem Mf.keyI {x : Int} (h : Ty.I64 x) : keyOf Tryd.prog 3 (.int .i64 x) = some (.int .i64 x) := keyOf_int_mk Tryd.underlying3 (Mf.wf h)
theorem Mf.isKey (x : Int) : WideAt.IsKeyLit (.int .i64 x) := trivial
theorem Mf.key_ne {x y : Int} (h : y ≠ x) : (Lit.int .i64 y) ≠ .int .i64 x := fun e => h (by simpa using e)
def Mf.Rds (D : DataW Value) (m : Int → Option Value) : Prop := ∀ (x : Int) (z : DataW Value), D.atKey (.int .i64 x) z = match m x with | none => z | some v => .held v
theorem Mf.Rds.nil : Mf.Rds (.map []) (fun _ => none) := fun _ _ => rfl
theorem Mf.Rds.put {D : DataW Value} {m : Int → Option Value} (h : Mf.Rds D m) (hD : IsMap D) (x : Int) (v : Value) : Mf.Rds (D.put (.int .i64 x) (.held v)) (fun k => if k = x then some v else m k) := fun y z => by
 by_cases e : y = x
 ·rw [e, atKey_put_same hD (Mf.isKey x)]; simp
 ·rw [atKey_put_other (Mf.key_ne e), h y z]; simp [e]
theorem Mf.Rds.del {D : DataW Value} {m : Int → Option Value} (h : Mf.Rds D m) (x : Int) : Mf.Rds (D.del (.int .i64 x)) (fun k => if k = x then none else m k) := fun y z => by
 by_cases e : y = x
 ·rw [e, atKey_del_same]; simp
 ·rw [atKey_del_other (Mf.key_ne e), h y z]; simp [e]
theorem Mf.Rds.has {D : DataW Value} {m : Int → Option Value} (h : Mf.Rds D m) (x : Int) : Maps.has D (.int .i64 x) = (m x).isSome := by
 cases hl : m x with
 | none => exact has_false_of_atKey fun z => by rw [h x z, hl]
 | some v => exact has_true_of_atKey (y := .held v) fun z => by rw [h x z, hl]
def Mf.PM (w : World) (b n : Nat) (m : Int → Option Value) : Prop := ∃ D : DataW Value, w.ownsMap Tryd.prog 3 Mf.slR b n D ∧ Mf.Rds D m
theorem Mf.PM.lt {w : World} {b n : Nat} {m : Int → Option Value} (h : Mf.PM w b n m) : b < w.heap.size := by
 obtain ⟨D, hown, _⟩ := h
 exact hown.lt
theorem Mf.PM.isMap {w : World} {b n : Nat} {m : Int → Option Value} (h : Mf.PM w b n m) : ∃ es c, w.heap[b]? = some (.map es c) := by
 obtain ⟨D, ⟨es, c, hb, _⟩, _⟩ := h
 exact ⟨es, c, hb⟩
theorem Mf.PM.same {w w' : World} {b n : Nat} {m : Int → Option Value} (h : Mf.PM w b n m) (g : w'.heap[b]? = w.heap[b]?) : Mf.PM w' b n m := by
 obtain ⟨D, ⟨es, c, hb, r⟩, hr⟩ := h
 exact ⟨D, ⟨es, c, g.trans hb, r⟩, hr⟩
theorem Mf.PM.mono {w : World} {b n n' : Nat} {m : Int → Option Value} (h : Mf.PM w b n m) (hn : n ≤ n') : Mf.PM w b n' m := by
 obtain ⟨D, hown, hr⟩ := h
 exact ⟨D, hown.mono hn, hr⟩
theorem Mf.PM.made (w : World) : Mf.PM (w.alloc (.map #[] 0)) w.heap.size 0 (fun _ => none) := ⟨_, World.ownsMap_made w _ _ _, Mf.Rds.nil⟩
def Mf.slv (o : Option Value) : Value := match o with | none => .slice none 0 0 | some v => v
theorem Mf.PM.look {w : World} {b n : Nat} {m : Int → Option Value} (h : Mf.PM w b n m) {x : Int} (hx : Ty.I64 x) :
 (Instr.lookup 60 (.map (some b)) (.int .i64 x) false).run Tryd.prog w = .ok (Mf.slv (m x)) w := by
 obtain ⟨D, hown, hr⟩ := h
 obtain ⟨v, ps, hrun, hv⟩ := hown.lookup (e := 72) Mf.keyed Tryd.underlying60 (z := .slice none 0 0) (by kernel_rfl) (zd := .held (.slice none 0 0)) (zp := []) rfl (Mf.keyI hx)
 rw [hrun]
 rw [hr x] at hv
 cases hl : m x with
 | none => rw [hl] at hv; rw [Mf.slR_some hv]; rfl
 | some u => rw [hl] at hv; rw [Mf.slR_some hv]; rfl
theorem Mf.PM.store {w : World} {b n : Nat} {m : Int → Option Value} (h : Mf.PM w b n m) (hn : n < maxLen) {x : Int} (hx : Ty.I64 x) {v : Value} (hv : ∃ a l c, v = .slice a l c) :
 ∃ w', (Instr.mapUpdate 60 (.map (some b)) (.int .i64 x) v).run Tryd.prog w = .ok () w' ∧ Mf.PM w' b (n + 1) (fun k => if k = x then some v else m k) ∧ w.mapTurned w' b := by
 obtain ⟨D, hown, hr⟩ := h
 obtain ⟨a, l, c, rfl⟩ := hv
 obtain ⟨w', hrun, h1, h2⟩ := hown.store (e := 72) Mf.keyed Tryd.underlying60 hn (Mf.keyI hx) (val := .slice a l c) (d := .held (.slice a l c)) (ps := []) rfl
 exact ⟨w', hrun, ⟨_, h1, hr.put hown.isMap x _⟩, h2⟩
theorem Mf.PM.drop {w : World} {b n : Nat} {m : Int → Option Value} (h : Mf.PM w b n m) {x : Int} (hx : Ty.I64 x) (ty : TypeId) :
 ∃ w', (Builtin.delete_ #[60, 3] ty #[.map (some b), .int .i64 x]).run Tryd.prog w = .ok (.tuple #[]) w' ∧ Mf.PM w' b n (fun k => if k = x then none else m k) ∧ w.mapTurned w' b := by
 obtain ⟨D, hown, hr⟩ := h
 obtain ⟨w', hrun, h1, h2⟩ := hown.drop (e := 72) Mf.keyed Tryd.underlying60 (Mf.keyI hx) ty
 exact ⟨w', hrun, ⟨_, h1, hr.del x⟩, h2⟩
def Mf.lc (x : Nat × Mf.P) : List Value := [.int .i64 (x.1 : Int), .int .i64 x.2.id, .int .i64 x.2.lv, .bool x.2.lo.null, .int .i64 x.2.lo.n, .string x.2.lo.s, .bool x.2.hi.null, .int .i64 x.2.hi.n, .string x.2.hi.s]
theorem Mf.lc_len (x : Nat × Mf.P) : (Mf.lc x).length = 9 := rfl
theorem Mf.lc_one (x : Nat × Mf.P) : ∀ u ∈ Mf.lc x, u.oneCell' = true := by
 intro u hu
 simp only [Mf.lc, List.mem_cons, List.not_mem_nil, or_false] at hu
 rcases hu with rfl | rfl | rfl | rfl | rfl | rfl | rfl | rfl | rfl <;> rfl
theorem Mf.infoL : (Tryd.prog.info? 75).map (fun i => (i.zero, i.size, i.bytes)) = some (some (.agg #[.int .i64 0, .int .i64 0, .int .i64 0, .bool false, .int .i64 0, .string ⟨#[]⟩, .bool false, .int .i64 0, .string ⟨#[]⟩]), 9, 88) := by kernel_rfl
def Mf.Op (base : Nat) (w : World) (v : Value) (K : List (Nat × Mf.P)) : Prop := Dk.Own 75 9 Mf.lc base w v K
theorem Mf.Op.nil (base : Nat) (w : World) : Mf.Op base w (.slice none 0 0) [] := Dk.Own.nil base w
theorem Mf.Op.kept {base : Nat} {w w' : World} {v : Value} {K : List (Nat × Mf.P)} (h : Mf.Op base w v K) (g : Below w.heap.size w w') : Mf.Op base w' v K := Dk.Own.kept h g
theorem Mf.Op.form {base : Nat} {w : World} {v : Value} {K : List (Nat × Mf.P)} (h : Mf.Op base w v K) : ∃ a c, v = .slice a K.length c := by
 rcases Dk.Own.form h with ⟨rfl, rfl⟩ | ⟨g, c, rfl, _⟩
 ·exact ⟨_, _, rfl⟩
 ·exact ⟨_, _, rfl⟩
theorem Mf.Op.blk {base : Nat} {w : World} {v : Value} {K : List (Nat × Mf.P)} (h : Mf.Op base w v K) (hk : K ≠ []) : ∃ g, v.ownBlock = some g ∧ base ≤ g ∧ g < w.heap.size := by
 rcases Dk.Own.form h with ⟨_, h0⟩ | ⟨g, c, rfl, _, _, h1, h2⟩
 ·exact absurd h0 hk
 ·exact ⟨g, rfl, h1, h2⟩
def Mf.of (K : List (Nat × Mf.P)) (x : Int) : List (Nat × Mf.P) := K.filter fun y => y.2.id == x
theorem Mf.of_snoc (K : List (Nat × Mf.P)) (y : Nat × Mf.P) (x : Int) : Mf.of (K ++ [y]) x = if y.2.id = x then Mf.of K x ++ [y] else Mf.of K x := by
 unfold Mf.of
 rw [List.filter_append]
 by_cases h : y.2.id = x
 ·rw [if_pos h]; simp [h]
 ·rw [if_neg h]; simp [h]
def Mf.off (K : List (Nat × Mf.P)) (x : Int) : List (Nat × Mf.P) := K.filter fun y => !(y.2.id == x)
theorem Mf.of_off (K : List (Nat × Mf.P)) (x k : Int) : Mf.of (Mf.off K x) k = if k = x then [] else Mf.of K k := by
 unfold Mf.of Mf.off
 rw [List.filter_filter]
 by_cases h : k = x
 ·rw [if_pos h, h]
  refine List.filter_eq_nil_iff.2 fun y _ => ?_
  by_cases e : y.2.id = x <;> simp [e]
 ·rw [if_neg h]
  refine List.filter_congr fun y _ => ?_
  by_cases e : y.2.id = k
  ·simp [e, h]
  ·simp [e]
theorem Mf.of_has (K : List (Nat × Mf.P)) (x : Int) : Mf.of K x = [] ↔ Mf.has (K.map (·.2)) x = false := by
 rw [Mf.has_not]
 unfold Mf.of
 rw [List.filter_eq_nil_iff]
 constructor
 ·intro h p hp
  obtain ⟨y, hy, rfl⟩ := List.mem_map.1 hp
  have := h y hy
  simpa using this
 ·intro h y hy
  have := h y.2 (List.mem_map.2 ⟨y, hy, rfl⟩)
  simpa using this
theorem Mf.off_wo (K : List (Nat × Mf.P)) (x : Int) : (Mf.off K x).map (·.2) = Mf.wo (K.map (·.2)) x := by
 unfold Mf.off Mf.wo
 rw [List.filter_map]
 rfl
structure Mf.Bm (B : Nat) (w : World) (q b : Nat) (m : Int → Option Value) (K : List (Nat × Mf.P)) (pl : Nat) (f n : Int) : Prop where
 box : w.heap[q]? = some (.cells #[.map (some b), .int .i64 (pl : Int), .int .i64 f, .int .i64 n] 62 (0, 0))
 map : Mf.PM w b pl m
 some_ : ∀ x v, m x = some v → Mf.Op B w v (Mf.of K x) ∧ Mf.of K x ≠ []
 none_ : ∀ x, m x = none → Mf.of K x = []
 apart : ∀ x y u v, x ≠ y → m x = some u → m y = some v → u.ownBlock ≠ v.ownBlock
 bq : B ≤ q
 bb : B ≤ b
 asc : K.Pairwise fun x y => x.1 < y.1
 lt : ∀ y ∈ K, y.1 < pl
 keys : ∀ y ∈ K, Ty.I64 y.2.id
def Mf.Bk (B : Nat) (w : World) (q : Nat) (K : List (Nat × Mf.P)) (pl : Nat) (f n : Int) : Prop := ∃ b m, Mf.Bm B w q b m K pl f n
structure Mf.Tf (B : Nat) (w w' : World) : Prop where
 below : Below B w w'
 cells : ∀ (j : Nat) (cs : Array Value) (t : TypeId) (fr : Nat × Nat), w.heap[j]? = some (Obj.cells cs t fr) → t ≠ 62 → t ≠ 75 → w'.heap[j]? = w.heap[j]?
theorem Mf.Tf.refl (B : Nat) (w : World) : Mf.Tf B w w := ⟨Below.refl _ _, fun _ _ _ _ _ _ _ => rfl⟩
theorem Mf.Tf.trans {B : Nat} {w w1 w2 : World} (h : Mf.Tf B w w1) (g : Mf.Tf B w1 w2) : Mf.Tf B w w2 :=
 ⟨h.below.trans g.below, fun j cs t fr h0 h1 h2 => (g.cells j cs t fr ((h.cells j cs t fr h0 h1 h2).trans h0) h1 h2).trans (h.cells j cs t fr h0 h1 h2)⟩
theorem Mf.Tf.of {B : Nat} {w w' : World} (g : Below w.heap.size w w') (hB : B ≤ w.heap.size) : Mf.Tf B w w' :=
 ⟨g.mono hB, fun j _ _ _ h0 _ _ => g.block j (lt_of_block h0)⟩
theorem Mf.Tf.alloc {B : Nat} {w w' : World} (h : Mf.Tf B w w') (hB : B ≤ w.heap.size) (o : Obj) : Mf.Tf B w (w'.alloc o) := h.trans (Mf.Tf.of ((Below.refl _ _).alloc (Nat.le_refl _) o) (Nat.le_trans hB h.below.size))
theorem Mf.Tf.own {α : Type} {B base : Nat} {e : TypeId} {k : Nat} {enc : α → List Value} {w w' : World} {v : Value} {L : List α} (g : Mf.Tf B w w') (h : Dk.Own e k enc base w v L) (h1 : e ≠ 62) (h2 : e ≠ 75) : Dk.Own e k enc base w' v L :=
 Dk.Own.same h fun b hb => by
  obtain ⟨cs, hcs⟩ := Dk.Own.typed h b hb
  exact g.cells b _ _ _ hcs h1 h2
theorem Mf.Bm.kept {B : Nat} {w w' : World} {q b : Nat} {m : Int → Option Value} {K : List (Nat × Mf.P)} {pl : Nat} {f n : Int} (h : Mf.Bm B w q b m K pl f n) (g : Below w.heap.size w w') : Mf.Bm B w' q b m K pl f n :=
 ⟨(g.block q (lt_of_block h.box)).trans h.box, h.map.same (g.block b h.map.lt), fun x v hx => ⟨(h.some_ x v hx).1.kept g, (h.some_ x v hx).2⟩, h.none_, h.apart, h.bq, h.bb, h.asc, h.lt, h.keys⟩
theorem Mf.Bk.kept {B : Nat} {w w' : World} {q : Nat} {K : List (Nat × Mf.P)} {pl : Nat} {f n : Int} (h : Mf.Bk B w q K pl f n) (g : Below w.heap.size w w') : Mf.Bk B w' q K pl f n := by
 obtain ⟨b, m, h⟩ := h
 exact ⟨b, m, h.kept g⟩
theorem Mf.Bm.four {B : Nat} {w : World} {q b : Nat} {m : Int → Option Value} {K : List (Nat × Mf.P)} {pl : Nat} {f n : Int} (h : Mf.Bm B w q b m K pl f n) :
 (w.cell? ⟨q, 0, none⟩ = some (.map (some b)) ∧ w.cell? ⟨q, 1, none⟩ = some (.int .i64 (pl : Int)) ∧ w.cell? ⟨q, 2, none⟩ = some (.int .i64 f) ∧ w.cell? ⟨q, 3, none⟩ = some (.int .i64 n)) ∧ w.frozen? ⟨q, 1, none⟩ = false ∧ w.frozen? ⟨q, 2, none⟩ = false ∧ w.frozen? ⟨q, 3, none⟩ = false := by
 have hb := h.box
 refine ⟨⟨?_, ?_, ?_, ?_⟩, ?_, ?_, ?_⟩ <;> simp [World.cell?, World.frozen?, hb]
theorem Mf.Bm.slice {B : Nat} {w : World} {q b : Nat} {m : Int → Option Value} {K : List (Nat × Mf.P)} {pl : Nat} {f n : Int} (h : Mf.Bm B w q b m K pl f n) (x : Int) : Mf.Op B w (Mf.slv (m x)) (Mf.of K x) := by
 cases hm : m x with
 | none => rw [h.none_ x hm]; exact Mf.Op.nil _ _
 | some v => exact (h.some_ x v hm).1
set_option maxHeartbeats 1000000 in
set_option maxRecDepth 100000 in
theorem Mf.has_c {B : Nat} {w : World} {q : Nat} {K : List (Nat × Mf.P)} {pl : Nat} {f n : Int} (h : Mf.Bk B w q K pl f n) (x : Int) (hx : Ty.I64 x) :
 Calls Tryd.prog 31 #[.pointer (some ⟨q, 0, none⟩), .int .i64 x] w fun e w' => e = .returned (.bool (Mf.has (K.map (·.2)) x)) ∧ w' = w := by
 obtain ⟨b, m, h⟩ := h
 have hlk := h.map.look hx
 obtain ⟨a, c, e⟩ := (h.slice x).form
 rw [e] at hlk
 obtain ⟨⟨c0, c1, c2, c3⟩, -⟩ := h.four
 have HH : Hid (decide (0 < (Mf.of K x).length) = Mf.has (K.map (·.2)) x) := Lib.hid (by
  cases hh : Mf.has (K.map (·.2)) x
  ·rw [(Mf.of_has K x).2 hh]; rfl
  ·have : Mf.of K x ≠ [] := fun e => by rw [(Mf.of_has K x).1 e] at hh; cases hh
   exact decide_eq_true (List.length_pos_iff.2 this))
 rw [← HH.out]
 generalize (Mf.of K x).length = z at hlk ⊢
 clear h e HH
 go_enter Tryd.func31, Tryd.ntmps31
 go_wp2
 go_ret
 exact ⟨rfl, rfl⟩
end
section
open Go.RowKit Go.Maps
theorem Mf.chain {w w1 w2 w3 : World} {v v' : Value} {b q : Nat} (g1 : Below w.heap.size w w1) (g2 : Ty.Grew w1 w2 v v') (g3 : w2.mapTurned w3 b) (u : Value) {j : Nat} (hj : j < w.heap.size) (hv : some j ≠ v.ownBlock) (hb : j ≠ b) (hq : j ≠ q) :
 (w3.setCell ⟨q, 1, none⟩ u).heap[j]? = w.heap[j]? :=
 (Below.heap_setCell _ _ _ _ (by show j ≠ q; exact hq)).trans ((g3.grown.block j (Nat.lt_of_lt_of_le hj (Nat.le_trans g1.size g2.by_.size)) (fun e => hb (Option.some.inj e))).trans ((g2.by_.block j (Nat.lt_of_lt_of_le hj g1.size) hv).trans (g1.block j hj)))
theorem Mf.Op.typed {base : Nat} {w : World} {v : Value} {K : List (Nat × Mf.P)} (h : Mf.Op base w v K) {j : Nat} (hj : v.ownBlock = some j) : ∃ cs, w.heap[j]? = some (.cells cs 75 (0, 0)) := Dk.Own.typed h j hj
theorem Mf.Op.at_blk {base : Nat} {w w' : World} {v : Value} {K : List (Nat × Mf.P)} (h : Mf.Op base w v K) (g : ∀ j, v.ownBlock = some j → w'.heap[j]? = w.heap[j]?) : Mf.Op base w' v K := Dk.Own.same h g
theorem Mf.apart_of {w : World} {j k : Nat} {cs : Array Value} {t t' : TypeId} {f f' : Nat × Nat} {cs' : Array Value} (h : w.heap[j]? = some (.cells cs t f)) (h' : w.heap[k]? = some (.cells cs' t' f')) (ht : t ≠ t') : j ≠ k := fun e => by
 subst e
 rw [h] at h'
 simp only [Option.some.injEq, Obj.cells.injEq] at h'
 exact ht h'.2.1
theorem Mf.apart_map {w : World} {j k : Nat} {cs : Array Value} {t : TypeId} {f : Nat × Nat} {es : Array MapEntry} {c : Nat} (h : w.heap[j]? = some (.cells cs t f)) (h' : w.heap[k]? = some (.map es c)) : j ≠ k := fun e => by
 subst e
 rw [h] at h'
 cases h'
theorem Mf.Bm.added {B : Nat} {w w1 w2 w3 : World} {q b : Nat} {m : Int → Option Value} {K : List (Nat × Mf.P)} {pl : Nat} {f n : Int} (h : Mf.Bm B w q b m K pl f n) (p : Mf.P) (hp : Ty.I64 p.id) {v' : Value} (g1 : Below w.heap.size w w1)
 (g2 : Ty.Grew w1 w2 (Mf.slv (m p.id)) v') (ho : Mf.Op B w2 v' (Mf.of K p.id ++ [(pl, p)])) (hm : Mf.PM w3 b (pl + 1) (fun k => if k = p.id then some v' else m k)) (g3 : w2.mapTurned w3 b) :
 Mf.Bm B (w3.setCell ⟨q, 1, none⟩ (.int .i64 ((pl : Int) + 1))) q b (fun k => if k = p.id then some v' else m k) (K ++ [(pl, p)]) (pl + 1) f n ∧ Mf.Tf B w (w3.setCell ⟨q, 1, none⟩ (.int .i64 ((pl : Int) + 1))) := by
 have hsl := h.slice p.id
 obtain ⟨es, cc, hbm⟩ := h.map.isMap
 have hqb : q ≠ b := Mf.apart_map h.box hbm
 have hown : ∀ j, (Mf.slv (m p.id)).ownBlock = some j → B ≤ j ∧ j < w.heap.size ∧ j ≠ q ∧ j ≠ b := fun j hj => by
  obtain ⟨cs, hc⟩ := hsl.typed hj
  have h1 := World.ownsRow.lt hsl j hj
  exact ⟨h1.1, h1.2, Mf.apart_of hc h.box (by decide), Mf.apart_map hc hbm⟩
 have hs1 : w.heap.size ≤ w1.heap.size := g1.size
 have hs2 : w1.heap.size ≤ w2.heap.size := g2.by_.size
 have hs3 : w2.heap.size ≤ w3.heap.size := g3.grown.size
 have hql := lt_of_block h.box
 have hbl := h.map.lt
 have hch : ∀ j, j < w.heap.size → some j ≠ (Mf.slv (m p.id)).ownBlock → j ≠ b → j ≠ q → (w3.setCell ⟨q, 1, none⟩ (.int .i64 ((pl : Int) + 1))).heap[j]? = w.heap[j]? := fun j hj hv hb hq => Mf.chain g1 g2 g3 _ hj hv hb hq
 have hbox3 : w3.heap[q]? = some (.cells #[.map (some b), .int .i64 (pl : Int), .int .i64 f, .int .i64 n] 62 (0, 0)) :=
  (g3.grown.block q (by omega) (fun e => hqb (Option.some.inj e))).trans ((g2.by_.block q (by omega) (fun e => (hown q e.symm).2.2.1 rfl)).trans ((g1.block q hql).trans h.box))
 have hv' : ∀ j, v'.ownBlock = some j → (w3.setCell ⟨q, 1, none⟩ (.int .i64 ((pl : Int) + 1))).heap[j]? = w2.heap[j]? ∧ ((Mf.slv (m p.id)).ownBlock = some j ∨ w1.heap.size ≤ j) := fun j hj => by
  have hor : (Mf.slv (m p.id)).ownBlock = some j ∨ w1.heap.size ≤ j := by
   rcases g2.own with e | ⟨i, e, hi⟩
   ·exact .inl (e ▸ hj)
   ·rw [e] at hj
    obtain rfl := Option.some.inj hj
    exact .inr hi
  have hne : j ≠ q ∧ j ≠ b := by
   rcases hor with e | e
   ·exact (hown j e).2.2
   ·exact ⟨by omega, by omega⟩
  have hl2 := (World.ownsRow.lt ho j hj).2
  exact ⟨(Below.heap_setCell _ _ _ _ (by show j ≠ q; exact hne.1)).trans (g3.grown.block j hl2 (fun e => hne.2 (Option.some.inj e))), hor⟩
 have hother : ∀ x u, x ≠ p.id → m x = some u → ∀ j, u.ownBlock = some j → some j ≠ (Mf.slv (m p.id)).ownBlock := fun x u hx hu j hj e => by
  cases hm0 : m p.id with
  | none => rw [hm0] at e; cases e
  | some v =>
    rw [hm0] at e
    exact h.apart x p.id u v hx hu hm0 (hj.trans e)
 refine ⟨⟨?_, hm.same ?_, ?_, ?_, ?_, h.bq, h.bb, ?_, ?_, ?_⟩, ⟨⟨?_, ?_, ?_, ?_, ?_⟩, ?_⟩⟩
 ·exact heap_setCell_same w3 q 1 _ _ _ hbox3
 ·exact Below.heap_setCell _ _ _ _ (by show b ≠ q; exact fun e => hqb e.symm)
 ·intro x v hx
  by_cases e : x = p.id
  ·rw [if_pos e] at hx
   obtain rfl := Option.some.inj hx
   rw [Mf.of_snoc, if_pos e.symm, e]
   exact ⟨ho.at_blk fun j hj => (hv' j hj).1, by simp⟩
  ·rw [if_neg e] at hx
   rw [Mf.of_snoc, if_neg (fun e2 => e e2.symm)]
   obtain ⟨ho1, hne⟩ := h.some_ x v hx
   refine ⟨ho1.at_blk fun j hj => ?_, hne⟩
   obtain ⟨cs, hc⟩ := ho1.typed hj
   exact hch j (World.ownsRow.lt ho1 j hj).2 (hother x v e hx j hj) (Mf.apart_map hc hbm) (Mf.apart_of hc h.box (by decide))
 ·intro x hx
  by_cases e : x = p.id
  ·rw [if_pos e] at hx; cases hx
  ·rw [if_neg e] at hx
   rw [Mf.of_snoc, if_neg (fun e2 => e e2.symm)]
   exact h.none_ x hx
 ·have hkey : ∀ x u, x ≠ p.id → m x = some u → u.ownBlock ≠ v'.ownBlock := fun x u hx hu e => by
   obtain ⟨ho1, hne⟩ := h.some_ x u hu
   obtain ⟨j, hj, _, hjl⟩ := ho1.blk hne
   rcases (hv' j (e ▸ hj)).2 with e2 | e2
   ·exact hother x u hx hu j hj e2.symm
   ·omega
  intro x y u v hxy hu hv e
  by_cases ex : x = p.id
  ·have ey : y ≠ p.id := fun e2 => hxy (ex.trans e2.symm)
   rw [if_pos ex] at hu
   rw [if_neg ey] at hv
   obtain rfl := Option.some.inj hu
   exact hkey y v ey hv e.symm
  ·rw [if_neg ex] at hu
   by_cases ey : y = p.id
   ·rw [if_pos ey] at hv
    obtain rfl := Option.some.inj hv
    exact hkey x u ex hu e
   ·rw [if_neg ey] at hv
    exact h.apart x y u v hxy hu hv e
 ·rw [List.pairwise_append]
  refine ⟨h.asc, List.pairwise_singleton _ _, fun x hx y hy => ?_⟩
  obtain rfl : y = (pl, p) := by simpa using hy
  exact h.lt x hx
 ·intro y hy
  rcases List.mem_append.1 hy with hy | hy
  ·have := h.lt y hy
   omega
  ·obtain rfl : y = (pl, p) := by simpa using hy
   exact Nat.lt_succ_self _
 ·intro y hy
  rcases List.mem_append.1 hy with hy | hy
  ·exact h.keys y hy
  ·obtain rfl : y = (pl, p) := by simpa using hy
   exact hp
 ·exact (g3.grown.os).trans (g2.by_.os.trans g1.os)
 ·exact (g3.grown.tape).trans (g2.by_.tape.trans g1.tape)
 ·exact (g3.grown.output).trans (g2.by_.output.trans g1.output)
 ·have : (w3.setCell ⟨q, 1, none⟩ (.int .i64 ((pl : Int) + 1))).heap.size = w3.heap.size := by simp [World.setCell]
  omega
 ·intro j hj
  have := h.bq
  have := h.bb
  exact hch j (by omega) (fun e => by have := (hown j e.symm).1; omega) (by omega) (by omega)
 ·intro j cs t fr hc h1 h2
  refine hch j (lt_of_block hc) (fun e => ?_) (Mf.apart_map hc hbm) (Mf.apart_of hc h.box h1)
  obtain ⟨cs2, hc2⟩ := hsl.typed e.symm
  exact Mf.apart_of hc hc2 h2 rfl
end
section
open Go.RowKit Go.Maps
theorem Mf.step_op {base : Nat} {w0 : World} {v : Value} {M : List (Nat × Mf.P)} (K : List (Nat × Mf.P)) (hb : base ≤ w0.heap.size) (hown : Mf.Op base w0 v M) (hl : M.length + K.length ≤ 1500000000000)
 {ops : Array Oper} {o : Oper} {a : Act} {Kx : Act → World → Prop} {Q : Exit → Act → World → Prop} {E : Prop} (s x : Operand) (u : Value) (hgd : o.guard = none)
 (ho : o.op = .call { callee := .builtin .append, args := #[s, x], argTypes := #[72, 72] })
 (hs : a.eval s = v) (hx : a.eval x = u) (hu : Dk.Src Mf.lc w0 u K)
 (h : ∀ v' w', Mf.Op base w' v' (M ++ K) → Ty.Grew w0 w' v v' → Kx (a.put o.dst v') w') :
 if Region.wanted o (yielded ops a.tmps) = true then Oper.wp Tryd.prog o a w0 Kx Q else E :=
 Dk.step_appendB 72 _ 88 Tryd.underlying72 Mf.infoL rfl (by decide) Mf.lc_len Mf.lc_one K hb hown (by omega) (by omega) s x u hgd ho hs hx hu h
abbrev Mf.ls (x : Nat × Mf.P) : Array Value := #[.int .i64 (x.1 : Int), .int .i64 x.2.id, .int .i64 x.2.lv, .bool x.2.lo.null, .int .i64 x.2.lo.n, .string x.2.lo.s, .bool x.2.hi.null, .int .i64 x.2.hi.n, .string x.2.hi.s]
theorem Mf.of_len (K : List (Nat × Mf.P)) (x : Int) : (Mf.of K x).length ≤ K.length := List.length_filter_le _ _
theorem Mf.lt_len_aux : ∀ (K : List (Nat × Mf.P)) (lo pl : Nat), (K.Pairwise fun x y => x.1 < y.1) → (∀ y ∈ K, lo ≤ y.1 ∧ y.1 < pl) → K = [] ∨ lo + K.length ≤ pl
 | [], _, _, _, _ => .inl rfl
 | x :: K, lo, pl, ha, hl => by
   rw [List.pairwise_cons] at ha
   have hx := hl x (by simp)
   rcases Mf.lt_len_aux K (x.1 + 1) pl ha.2 (fun y hy => ⟨ha.1 y hy, (hl y (by simp [hy])).2⟩) with rfl | h
   ·exact .inr (by simp; omega)
   ·exact .inr (by simp; omega)
theorem Mf.lt_len {K : List (Nat × Mf.P)} {pl : Nat} (ha : K.Pairwise fun x y => x.1 < y.1) (hl : ∀ y ∈ K, y.1 < pl) : K.length ≤ pl := by
 rcases Mf.lt_len_aux K 0 pl ha (fun y hy => ⟨Nat.zero_le _, hl y hy⟩) with rfl | h
 ·exact Nat.zero_le _
 ·omega
theorem Mf.Bm.put {B : Nat} {w w1 w2 : World} {q b : Nat} {m : Int → Option Value} {K : List (Nat × Mf.P)} {pl : Nat} {f n : Int} (h : Mf.Bm B w q b m K pl f n) (hpl : pl ≤ 1000000000000) {x : Int} (hx : Ty.I64 x) {v' : Value} (g1 : Below w.heap.size w w1)
 (g2 : Ty.Grew w1 w2 (Mf.slv (m x)) v') {M : List (Nat × Mf.P)} (ho : Mf.Op B w2 v' M) :
 ∃ w3, (Instr.mapUpdate 60 (.map (some b)) (.int .i64 x) v').run Tryd.prog w2 = .ok () w3 ∧ Mf.PM w3 b (pl + 1) (fun k => if k = x then some v' else m k) ∧ w2.mapTurned w3 b := by
 obtain ⟨es, cc, hbm⟩ := h.map.isMap
 have hne : some b ≠ (Mf.slv (m x)).ownBlock := fun e => by
  obtain ⟨cs, hc⟩ := (h.slice x).typed e.symm
  exact Mf.apart_map hc hbm rfl
 have hb2 := (g2.by_.block b (Nat.lt_of_lt_of_le h.map.lt g1.size) hne).trans (g1.block b h.map.lt)
 obtain ⟨a, c, e⟩ := ho.form
 exact (h.map.same hb2).store (by unfold maxLen; omega) hx ⟨_, _, _, e⟩
set_option maxHeartbeats 4000000 in
set_option maxRecDepth 100000 in
theorem Mf.add_c {B : Nat} {w : World} {q : Nat} {K : List (Nat × Mf.P)} {pl : Nat} {f n : Int} (h : Mf.Bk B w q K pl f n) (hB : B ≤ w.heap.size) (p : Mf.P) (hp : Ty.I64 p.id) (hpl : pl ≤ 1000000000000) :
 Calls Tryd.prog 27 #[.pointer (some ⟨q, 0, none⟩), p.val] w fun e w' => e = .returned (.tuple #[]) ∧ Mf.Bk B w' q (K ++ [(pl, p)]) (pl + 1) f n ∧ Mf.Tf B w w' := by
 obtain ⟨b, m, h⟩ := h
 have hpn := Mf.PA.new w p 44
 have hA : Below w.heap.size w (w.alloc (.cells (Mf.cs p) 44)) := (Below.refl _ _).alloc (Nat.le_refl _) _
 have hblk := heap_alloc_new w (.cells (Mf.cs p) 44)
 have hsz : (w.alloc (.cells (Mf.cs p) 44)).heap.size = w.heap.size + 1 := World.size_alloc ..
 have h1 := h.kept hA
 have HP := Lib.hid hp
 have HPL := Lib.hid hpl
 have HB := Lib.hid hB
 have HADD := Lib.hid fun (w1 w2 w3 : World) (v' : Value) (g1 : Below w.heap.size w w1) (g2 : Ty.Grew w1 w2 (Mf.slv (m p.id)) v') (ho : Mf.Op B w2 v' (Mf.of K p.id ++ [(pl, p)])) (hm : Mf.PM w3 b (pl + 1) (fun k => if k = p.id then some v' else m k)) (g3 : w2.mapTurned w3 b) => h.added p hp g1 g2 ho hm g3
 have HPUT := Lib.hid fun (w1 w2 : World) (v' : Value) (g1 : Below w.heap.size w w1) (g2 : Ty.Grew w1 w2 (Mf.slv (m p.id)) v') (ho : Mf.Op B w2 v' (Mf.of K p.id ++ [(pl, p)])) => h.put hpl hp g1 g2 ho
 have HLEN : Hid ((Mf.of K p.id).length ≤ 1000000000000) := Lib.hid (by have := Mf.of_len K p.id; have := Mf.lt_len h.asc h.lt; omega)
 have HSL := Lib.hid (h.slice p.id)
 have hpl9 : (pl : Int) ≤ 1000000000000 := by omega
 obtain ⟨es, cc, hbm⟩ := h.map.isMap
 have hqb : q ≠ b := Mf.apart_map h.box hbm
 have hvq : ∀ j, (Mf.slv (m p.id)).ownBlock = some j → j < w.heap.size ∧ j ≠ q ∧ j ≠ b := fun j hj => by
  obtain ⟨cs, hc⟩ := (h.slice p.id).typed hj
  exact ⟨(World.ownsRow.lt (h.slice p.id) j hj).2, Mf.apart_of hc h.box (by decide), Mf.apart_map hc hbm⟩
 have hbl := h.map.lt
 have hql := lt_of_block h.box
 obtain ⟨w1, hw1⟩ : ∃ w1, w1 = w.alloc (.cells (Mf.cs p) 44) := ⟨_, rfl⟩
 rw [← hw1] at hpn hA hblk hsz h1
 have HCELL : Hid (∀ W : World, W.heap[q]? = w1.heap[q]? → W.heap[w.heap.size]? = w1.heap[w.heap.size]? → W.cell? ⟨q, 0, none⟩ = some (.map (some b)) ∧ W.cell? ⟨q, 1, none⟩ = some (.int .i64 (pl : Int)) ∧ W.cell? ⟨w.heap.size, 0, none⟩ = some (.int .i64 p.id) ∧ W.cell? ⟨w.heap.size, 1, none⟩ = some (.int .i64 p.lv) ∧ W.cell? ⟨w.heap.size, 2, none⟩ = some (.bool p.lo.null) ∧ W.cell? ⟨w.heap.size, 3, none⟩ = some (.int .i64 p.lo.n) ∧ W.cell? ⟨w.heap.size, 4, none⟩ = some (.string p.lo.s) ∧ W.cell? ⟨w.heap.size, 5, none⟩ = some (.bool p.hi.null) ∧ W.cell? ⟨w.heap.size, 6, none⟩ = some (.int .i64 p.hi.n) ∧ W.cell? ⟨w.heap.size, 7, none⟩ = some (.string p.hi.s)) := Lib.hid fun W e1 e2 => by
  obtain ⟨⟨c0, c1, -⟩, -⟩ := h1.four
  have k : ∀ i, W.cell? ⟨w.heap.size, i, none⟩ = w1.cell? ⟨w.heap.size, i, none⟩ := fun i => World.cell?_of_block (a := ⟨w.heap.size, i, none⟩) e2
  have k1 : ∀ i, W.cell? ⟨q, i, none⟩ = w1.cell? ⟨q, i, none⟩ := fun i => World.cell?_of_block (a := ⟨q, i, none⟩) e1
  exact ⟨(k1 0).trans c0, (k1 1).trans c1, (k 0).trans hpn.c0, (k 1).trans hpn.c1, (k 2).trans hpn.c2, (k 3).trans hpn.c3, (k 4).trans hpn.c4, (k 5).trans hpn.c5, (k 6).trans hpn.c6, (k 7).trans hpn.c7⟩
 have HS1 := Lib.hid fun (W : World) (g : Below w1.heap.size w1 W) => HCELL.out W (g.block q (by omega)) (g.block w.heap.size (by omega))
 have HS2 := Lib.hid fun (wa W : World) (v' : Value) (ga : Below w1.heap.size w1 wa) (g : Ty.Grew wa W (Mf.slv (m p.id)) v') => HCELL.out W
  ((g.by_.block q (by have := ga.size; omega) (fun e => (hvq q e.symm).2.1 rfl)).trans (ga.block q (by omega))) ((g.by_.block w.heap.size (by have := ga.size; omega) (fun e => by have := (hvq _ e.symm).1; omega)).trans (ga.block w.heap.size (by omega)))
 have HS3 := Lib.hid fun (wa W W3 : World) (v' : Value) (ga : Below w1.heap.size w1 wa) (g : Ty.Grew wa W (Mf.slv (m p.id)) v') (g3 : W.mapTurned W3 b) => HCELL.out W3
  ((g3.grown.block q (by have := ga.size; have := g.by_.size; omega) (fun e => hqb (Option.some.inj e))).trans ((g.by_.block q (by have := ga.size; omega) (fun e => (hvq q e.symm).2.1 rfl)).trans (ga.block q (by omega))))
  ((g3.grown.block w.heap.size (by have := ga.size; have := g.by_.size; omega) (fun e => by have := Option.some.inj e; omega)).trans ((g.by_.block w.heap.size (by have := ga.size; omega) (fun e => by have := (hvq _ e.symm).1; omega)).trans (ga.block w.heap.size (by omega))))
 have HLK := Lib.hid fun (W : World) (g : Below w1.heap.size w1 W) => (h1.kept g).map.look hp
 have HFZ : Hid (∀ (wa W W3 : World) (v' : Value), Below w1.heap.size w1 wa → Ty.Grew wa W (Mf.slv (m p.id)) v' → W.mapTurned W3 b → W3.frozen? ⟨q, 1, none⟩ = false) := Lib.hid fun wa W W3 v' ga g g3 => by
  have hh := (g3.grown.block q (by have := ga.size; have := g.by_.size; omega) (fun e => hqb (Option.some.inj e))).trans ((g.by_.block q (by have := ga.size; omega) (fun e => (hvq q e.symm).2.1 rfl)).trans ((ga.block q (by omega)).trans h1.box))
  exact frozen_of_row W3 q 1 _ _ hh
 have HA := Lib.hid hA
 obtain ⟨av, cv, hav⟩ := (h.slice p.id).form
 rw [hav] at HADD HPUT HS2 HS3 HLK HFZ HSL
 clear h hB hp hpl hbm hqb hvq hbl hql hpn hblk h1 HCELL hA
 obtain ⟨id, lv, ⟨an, ai, sa⟩, ⟨bn, bi, sb⟩⟩ := p
 unfold Mf.P.val Mf.cs
 unfold Mf.cs at hw1
 simp only at HADD HPUT HS1 HS2 HS3 HLK HLEN HSL hav hw1 ⊢
 generalize (Mf.of K id) = KI at HADD HPUT HS2 HS3 HLK HLEN HSL HFZ
 clear hav
 go_enter Tryd.func27, Tryd.ntmps27
 go_wp2_with fail
 rw [← hw1]
 clear hw1
 have HD0 : Hid (Below w1.heap.size w1 w1.drew) := Lib.hid (Kn.below_drewN (Below.refl _ _) 1)
 have HDA : Hid (Below w1.heap.size w1 (w1.drew.alloc (.cells #[.int .i64 (pl : Int), .int .i64 id, .int .i64 lv, .bool an, .int .i64 ai, .string sa, .bool bn, .int .i64 bi, .string sb] 75))) := Lib.hid (HD0.out.alloc HD0.out.size _)
 have HSRC : Hid (Dk.Src Mf.lc (w1.drew.alloc (.cells #[.int .i64 (pl : Int), .int .i64 id, .int .i64 lv, .bool an, .int .i64 ai, .string sa, .bool bn, .int .i64 bi, .string sb] 75)) (.slice (some ⟨w1.drew.heap.size, 0, none⟩) 1 1) [(pl, ⟨id, lv, ⟨an, ai, sa⟩, ⟨bn, bi, sb⟩⟩)]) := Lib.hid (Dk.src_one w1.drew _ _ rfl _)
 have HOWN : Hid (Mf.Op B (w1.drew.alloc (.cells #[.int .i64 (pl : Int), .int .i64 id, .int .i64 lv, .bool an, .int .i64 ai, .string sa, .bool bn, .int .i64 bi, .string sb] 75)) (.slice av KI.length cv) KI) := Lib.hid ((HSL.out.kept HA.out).kept HDA.out)
 have HBS : Hid (B ≤ (w1.drew.alloc (.cells #[.int .i64 (pl : Int), .int .i64 id, .int .i64 lv, .bool an, .int .i64 ai, .string sa, .bool bn, .int .i64 bi, .string sb] 75)).heap.size) := Lib.hid (Nat.le_trans HB.out (Nat.le_trans HA.out.size HDA.out.size))
 have hw9 : IntKind.i64.wrap ((pl : Int) + 1) = (pl : Int) + 1 := by rw [IntKind.wrap_i64]; omega
 have l1 := HLK.out w1.drew HD0.out
 have l2 := HLK.out (w1.alloc (.cells #[.int .i64 (pl : Int), .int .i64 id, .int .i64 lv, .bool an, .int .i64 ai, .string sa, .bool bn, .int .i64 bi, .string sb] 75)).drew HDA.out
 clear HSL HLK hsz
 go_region_held3 (fun W => W.cell? ⟨q, 0, none⟩ = some (.map (some b)) ∧ W.cell? ⟨q, 1, none⟩ = some (.int .i64 (pl : Int)) ∧ W.cell? ⟨w.heap.size, 0, none⟩ = some (.int .i64 id) ∧ W.cell? ⟨w.heap.size, 1, none⟩ = some (.int .i64 lv) ∧ W.cell? ⟨w.heap.size, 2, none⟩ = some (.bool an) ∧ W.cell? ⟨w.heap.size, 3, none⟩ = some (.int .i64 ai) ∧ W.cell? ⟨w.heap.size, 4, none⟩ = some (.string sa) ∧ W.cell? ⟨w.heap.size, 5, none⟩ = some (.bool bn) ∧ W.cell? ⟨w.heap.size, 6, none⟩ = some (.int .i64 bi) ∧ W.cell? ⟨w.heap.size, 7, none⟩ = some (.string sb))
  (first
   | exact HS1.out _ HD0.out
   | exact HS1.out _ HDA.out
   | exact HS3.out _ _ _ _ HDA.out G2.out HT3.out
   | exact HS2.out _ _ _ HDA.out G2.out)
  (first
   | (refine Mf.step_op [(pl, ⟨id, lv, ⟨an, ai, sa⟩, ⟨bn, bi, sb⟩⟩)] HBS.out HOWN.out (by have := HLEN.out; simp only [List.length_singleton]; omega) _ _ _ (by rfl) (by rfl) (by rfl) (by rfl) HSRC.out ?_
      intro v2 w2 o2 g2
      obtain ⟨w3, hrun, hpm, ht⟩ := HPUT.out _ w2 v2 (HA.out.trans (HDA.out.mono HA.out.size)) g2 o2
      have O2 := Lib.hid o2
      have G2 := Lib.hid g2
      have HPM := Lib.hid hpm
      have HT3 := Lib.hid ht
      have f1 := HFZ.out _ _ _ _ HDA.out g2 ht
      clear o2 g2 hpm ht))
 all_goals
  have HEND := Lib.hid (HADD.out _ _ _ _ (HA.out.trans (HDA.out.mono HA.out.size)) G2.out O2.out HPM.out HT3.out)
  clear l1 l2 hrun
  (try go_wp2)
  go_end0
  exact ⟨rfl, ⟨_, _, HEND.out.1⟩, HEND.out.2⟩
end
end Go.Proofs.YteaglaijkafphaaDoor
