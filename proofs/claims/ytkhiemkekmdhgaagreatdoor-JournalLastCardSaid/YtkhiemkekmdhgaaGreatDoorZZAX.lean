import Derived.Test.YtkhiemkekmdhgaaGreatDoorZZAU
import Derived.Test.YtkhiemkekmdhgaaGreatDoorZZAW
import Derived.Test.YtkhiemkekmdhgaaGreatDoorZZAM
import Derived.Test.YtkhiemkekmdhgaaGreatDoorZZAI
import Derived.Test.YtkhiemkekmdhgaaGreatDoorZZAN
import Derived.Test.YtkhiemkekmdhgaaGreatDoorRows
import Derived.OrdersHeld
import Derived.Deep.RegionHeld3
import Derived.OrdersIn
import Derived.RangeFuncCalls
import Derived.TacticsIn
namespace Go.Proofs.YtkhiemkekmdhgaaGreatDoor
section
open Go.RowKit Go.ChangeShapes Go.WideShapes Go.ChangeAt Go.Deep
def Sk.Got (w : World) (v : Value) (l : List Kn.V) : Prop := ∃ a c, v = .slice a l.length c ∧ (l ≠ [] → Sk.In w v l)
theorem Sk.Got.later {w w' : World} {v : Value} {l : List Kn.V} (h : Sk.Got w v l) (g : Below w.heap.size w w') : Sk.Got w' v l := by
 obtain ⟨a, c, hv, h⟩ := h
 exact ⟨a, c, hv, fun hne => (h hne).later g⟩
theorem Sk.Got.vals {w : World} {v : Value} {l : List Kn.V} (h : Sk.Got w v l) : Kn.Vals w v l := by
 obtain ⟨a, c, hv, h⟩ := h
 by_cases hne : l = []
 ·exact ⟨a, c, hv, .inl hne⟩
 ·obtain ⟨a', c', hv', _, hl, h'⟩ := h hne
  rcases h' with ⟨_, _, h0⟩ | ⟨b, o, ha, hb, hc⟩
  ·exact absurd h0 hne
  ·exact ⟨a', c', hv', .inr ⟨b, o, ha, hb, by omega, hc⟩⟩
theorem Sk.Got.row {w : World} {v : Value} {l : List Kn.V} {B : Nat} (h : Sk.Got w v l) (hB : w.heap.size ≤ B) : Sk.Row B w v l := by
 obtain ⟨a, c, hv, h⟩ := h
 by_cases hne : l = []
 ·exact ⟨a, c, hv, by simp [hne], fun x hx => by simp [hne] at hx, .inl hne⟩
 ·obtain ⟨a', c', hv', hz, hl, h'⟩ := h hne
  rcases h' with ⟨_, _, h0⟩ | ⟨b, o, ha, hb, hc⟩
  ·exact absurd h0 hne
  ·exact ⟨a', c', hv', by omega, hz, .inr ⟨b, o, ha, by omega, hb, hc⟩⟩
def Sk.Deeds (w : World) (v : Value) (L : List Sk.E) : Prop := ∃ a c, v = .slice a L.length c ∧ L.length ≤ c ∧ c ≤ 9223372036854775807 ∧ (∀ x ∈ L, Sk.Got w x.rv x.row) ∧
 (L = [] ∨ ∃ b o, a = some ⟨b, o, none⟩ ∧ b < w.heap.size ∧ ∀ i x, L[i]? = some x → w.cell? ⟨b, o + i * 2, none⟩ = some (.bool x.gone) ∧ w.cell? ⟨b, o + i * 2 + 1, none⟩ = some x.rv)
section
variable {H : Type} {enc : TypeId × Value → H} {W : World}
theorem Sk.wa {P : Program} {e : TypeId} {d : DataW H} {n : Nat} : ∀ {l : List (DataW H)}, d ∈ l → n ∈ d.weights P e → n ∈ DataW.weightsAll P e l
 | x :: l, hd, hn => by
   rw [DataW.weightsAll, List.mem_append]
   rcases List.mem_cons.1 hd with rfl | hd
   ·exact .inl hn
   ·exact .inr (Sk.wa hd hn)
end
end
section
open Go Go.RowKit
structure Sk.Ow (w : World) (gn : Bool) (b o n c : Nat) (l : List Kn.V) (v : Kn.V) (W : World) : Prop where
 bl : Below w.heap.size w W
 lt : w.heap.size + 1 < W.heap.size
 d : W.heap[w.heap.size]? = some (.cells #[.bool gn, .slice (some ⟨b, o, none⟩) n c] 26 (0, 0))
 v : W.heap[w.heap.size + 1]? = some (.cells #[.bool v.null, .int .i64 v.n, .string v.s] 43 (0, 0))
 tab : Sk.Tab W
 in_ : Sk.In W (.slice (some ⟨b, o, none⟩) n c) l
theorem Sk.Ow.later {w : World} {gn : Bool} {b o n c : Nat} {l : List Kn.V} {v : Kn.V} {W W' : World} (h : Sk.Ow w gn b o n c l v W) (g : Below W.heap.size W W') : Sk.Ow w gn b o n c l v W' :=
 ⟨h.bl.trans (g.mono h.bl.size), Nat.lt_of_lt_of_le h.lt g.size, (g.block _ (by have := h.lt; omega)).trans h.d, (g.block _ h.lt).trans h.v, h.tab.later g h.tab.lt, h.in_.later g⟩
theorem Sk.Ow.below {w : World} {gn : Bool} {b o n c : Nat} {l : List Kn.V} {v : Kn.V} {W W' : World} {B : Nat} (h : Sk.Ow w gn b o n c l v W) (hin : Sk.In w (.slice (some ⟨b, o, none⟩) n c) l) (hT : Sk.Tab w) (g : Below B W W') (hB : w.heap.size + 1 < B) : Sk.Ow w gn b o n c l v W' := by
 have hb : Below w.heap.size w W' := h.bl.trans (g.mono (by omega))
 exact ⟨hb, Nat.lt_of_lt_of_le h.lt g.size, (g.block _ (by omega)).trans h.d, (g.block _ (by omega)).trans h.v, hT.later hb hT.lt, hin.later hb⟩
theorem Sk.Ow.cells {w : World} {gn : Bool} {b o n c : Nat} {l r : List Kn.V} {k v : Kn.V} {W : World} (h : Sk.Ow w gn b o n c l v W) (hl : l = k :: r) :
 (W.cell? ⟨w.heap.size, 0, none⟩ = some (.bool gn) ∧ W.cell? ⟨w.heap.size, 1, none⟩ = some (.slice (some ⟨b, o, none⟩) n c)) ∧ Kn.At W (w.heap.size + 1) 0 v ∧ Kn.At W b o k := by
 refine ⟨⟨by rw [cell_of_row _ _ _ _ _ _ h.d]; rfl, by rw [cell_of_row _ _ _ _ _ _ h.d]; rfl⟩, ⟨by rw [cell_of_row _ _ _ _ _ _ h.v]; rfl, by rw [cell_of_row _ _ _ _ _ _ h.v]; rfl, by rw [cell_of_row _ _ _ _ _ _ h.v]; rfl⟩, ?_⟩
 obtain ⟨a, c', e, _, _, hh⟩ := h.in_
 simp only [Value.slice.injEq] at e
 obtain ⟨rfl, _, _⟩ := e
 rcases hh with ⟨e, _⟩ | ⟨b', o', e, _, hc⟩
 ·cases e
 ·simp only [Option.some.injEq, Addr.mk.injEq, and_true] at e
  obtain ⟨rfl, rfl⟩ := e
  have := hc 0 k (by rw [hl]; rfl)
  simpa using this
theorem Sk.In.vals {w : World} {v : Value} {l : List Kn.V} (h : Sk.In w v l) : Kn.Vals w v l := by
 obtain ⟨a, c, rfl, _, hl, h⟩ := h
 rcases h with ⟨_, _, rfl⟩ | ⟨b, o, rfl, hb, h⟩
 ·exact ⟨a, c, rfl, .inl rfl⟩
 ·exact ⟨_, c, rfl, .inr ⟨b, o, rfl, hb, by omega, h⟩⟩
structure Sk.Ob (w2 : World) (gn : Bool) (l : List Kn.V) (q gg cc : Nat) (W : World) : Prop where
 b : Below w2.heap.size w2 W
 hq : w2.heap.size ≤ q
 box : W.heap[q]? = some (.cells #[.bool gn, .slice (some ⟨gg, 0, none⟩) l.length cc] 26 (0, 0))
 rw : Sk.Rw w2.heap.size W (.slice (some ⟨gg, 0, none⟩) l.length cc) l
theorem Sk.Ob.new {w2 w4 : World} {gn : Bool} {l : List Kn.V} {gg cc : Nat} (h : Below w2.heap.size w2 w4) (hr : Sk.Rw w2.heap.size w4 (.slice (some ⟨gg, 0, none⟩) l.length cc) l) :
 Sk.Ob w2 gn l w4.heap.size gg cc (w4.alloc (.cells #[.bool gn, .slice (some ⟨gg, 0, none⟩) l.length cc] 26)) :=
 ⟨h.alloc h.size _, h.size, heap_alloc_new w4 _, hr.kept ((Below.refl _ w4).alloc (Nat.le_refl _) _)⟩
theorem Sk.Ob.set {w2 w4 : World} {gn : Bool} {l : List Kn.V} {q gg cc : Nat} {x y : Value} (h : Below w2.heap.size w2 w4) (hr : Sk.Rw w2.heap.size w4 (.slice (some ⟨gg, 0, none⟩) l.length cc) l) (hq : w2.heap.size ≤ q) (hb : w4.heap[q]? = some (.cells #[x, y] 26 (0, 0))) :
 Sk.Ob w2 gn l q gg cc ((w4.setCell ⟨q, 0, none⟩ (.bool gn)).setCell ⟨q, 1, none⟩ (.slice (some ⟨gg, 0, none⟩) l.length cc)) := by
 have hne : ∀ k, (Value.slice (some ⟨gg, 0, none⟩) l.length cc).ownBlock = some k → k ≠ q := fun k hk e => by
  obtain ⟨cs, hcs⟩ := hr.typed k hk
  rw [e, hb] at hcs
  simp only [Option.some.injEq, Obj.cells.injEq] at hcs
  exact absurd hcs.2.1 (by decide)
 refine ⟨Sk.put2 h hq _ _, hq, Sk.two_set _ _ hb, hr.same fun k hk => ?_⟩
 exact (Below.heap_setCell _ _ _ _ (hne k hk)).trans (Below.heap_setCell _ _ _ _ (hne k hk))
def Sk.st (w : World) (g i : Nat) (v : Kn.V) : World := ((w.setCell ⟨g, i, none⟩ (.bool v.null)).setCell ⟨g, i + 1, none⟩ (.int .i64 v.n)).setCell ⟨g, i + 2, none⟩ (.string v.s)
end
section
open Go.RowKit
set_option maxRecDepth 100000 in
theorem Sk.rputno_c (p : Nat) (gn : Bool) (a : Option Addr) (c : Nat) (w : World) :
 Calls Tryz.prog 33 #[.pointer (some ⟨p, 0, none⟩), .agg #[.bool gn, .slice a 0 c]] w fun e w' => e = .returned (.bool false) ∧ Below w.heap.size w w' := by
 go_enter Tryz.func33, Tryz.ntmps33
 go_wp2
 go_ret
 exact ⟨rfl, (Below.refl _ w).alloc (Nat.le_refl _) _⟩
end
section
open Go Go.RowKit Go.Shelf
def Sk.pe (M : List Sk.E) (x : Sk.E) : List Sk.E := if x.row.isEmpty = true then M else Sk.put Sk.ke M x
def Sk.pd (M : List Dd.D) (d : Dd.D) : List Dd.D := if d.row.isEmpty = true then M else Sk.put Sk.kd M d
def Sk.puts (L : List Sk.E) : List Sk.E := L.foldl Sk.pe []
theorem Sk.PD.step {B : Nat} {S : Nat → Prop} {w : World} {p : Nat} {M : List Dd.D} (h : Sk.PD B S w p M) (hB : B ≤ w.heap.size) (hT : Sk.Tab w) (hg : 3 < B) {x : Sk.E} (hx : Sk.Got w x.rv x.row) (hl : M.length ≤ 100000) :
 Calls Tryz.prog 30 #[.pointer (some ⟨p, 0, none⟩), .agg #[.bool x.gone, x.rv]] w fun e w' => e = .returned (.bool (!x.row.isEmpty)) ∧
  (∃ S1, Sk.PD B S1 w' p (Sk.pd M x.d) ∧ ∀ b, S1 b → S b ∨ w.heap.size ≤ b) ∧ Sk.Off S w w' ∧ Below B w w' := by
 obtain ⟨a, c, hv, hx⟩ := hx
 unfold Sk.pd
 by_cases hne : x.row = []
 ·rw [hv, if_pos (show x.d.row.isEmpty = true by show x.row.isEmpty = true; simp [hne]), hne]
  refine (Sk.putno_c _ x.gone a c w).mono ?_
  rintro e w' ⟨rfl, g⟩
  exact ⟨rfl, ⟨S, h.later g, fun b hb => .inl hb⟩, Sk.Off.of_below g, g.mono hB⟩
 ·have he : x.row.isEmpty = false := by simpa using hne
  rw [if_neg (show ¬ x.d.row.isEmpty = true by show ¬ x.row.isEmpty = true; simp [he]), he]
  refine (h.put hB hT hg x.gone (hx hne) hne hl).mono ?_
  rintro e w' ⟨rfl, h1, h2, h3⟩
  exact ⟨rfl, ⟨_, h1, fun b hb => by rcases hb with hb | hb; exact .inl hb; exact .inr hb.1⟩, h2, h3⟩
theorem Sk.RL.step {B : Nat} {S : Nat → Prop} {w : World} {p : Nat} {v : Value} {M : List Sk.E} (h : Sk.RL S B w p v M) {x : Sk.E} (hx : Sk.Got w x.rv x.row) (hr : Sk.Row B w x.rv x.row) (hl : M.length ≤ 100000) :
 Calls Tryz.prog 33 #[.pointer (some ⟨p, 0, none⟩), .agg #[.bool x.gone, x.rv]] w fun e w' => e = .returned (.bool (!x.row.isEmpty)) ∧
  (∃ S1 v1, Sk.RL S1 B w' p v1 (Sk.pe M x) ∧ ∀ b, S1 b → S b ∨ w.heap.size ≤ b) ∧ Sk.Off S w w' ∧ Below B w w' := by
 obtain ⟨a, c, hv, hx⟩ := hx
 unfold Sk.pe
 by_cases hne : x.row = []
 ·rw [hv, if_pos (show x.row.isEmpty = true by simp [hne]), hne]
  refine (Sk.rputno_c _ x.gone a c w).mono ?_
  rintro e w' ⟨rfl, g⟩
  exact ⟨rfl, ⟨S, v, h.kept g, fun b hb => .inl hb⟩, Sk.Off.of_below g, g.mono h.le⟩
 ·have he : x.row.isEmpty = false := by simpa using hne
  rw [if_neg (by simp [he]), he]
  refine (Sk.rput_c h x hr hne hl).mono ?_
  rintro e w' ⟨rfl, ⟨v1, h1⟩, h2⟩
  exact ⟨rfl, ⟨_, v1, h1, fun b hb => by rcases hb with hb | hb; exact .inl hb; exact .inr hb.1⟩, h2, h2.below h.le h.from_⟩
def Sk.Two (w0 W : World) (p q : Nat) (M : List Dd.D) (N : List Sk.E) : Prop :=
 ∃ S S' v, Sk.PD w0.heap.size S W p M ∧ Sk.RL S' w0.heap.size W q v N ∧ (∀ b, S b → ¬ S' b) ∧ Below w0.heap.size w0 W
theorem Sk.Two.below {w0 W : World} {p q : Nat} {M : List Dd.D} {N : List Sk.E} (h : Sk.Two w0 W p q M N) : Below w0.heap.size w0 W := by
 obtain ⟨_, _, _, _, _, _, h⟩ := h
 exact h
theorem Sk.Two.later {w0 W W' : World} {p q : Nat} {M : List Dd.D} {N : List Sk.E} (h : Sk.Two w0 W p q M N) (g : Below W.heap.size W W') : Sk.Two w0 W' p q M N := by
 obtain ⟨S, S', v, h1, h2, h3, h4⟩ := h
 exact ⟨S, S', v, h1.later g, h2.kept g, h3, h4.trans (g.mono h4.size)⟩
theorem Sk.Two.new {w0 W : World} {p : Nat} {S : Nat → Prop} (h : Sk.PD w0.heap.size S W p []) (g : Below w0.heap.size w0 W) :
 Sk.Two w0 (W.alloc (.cells #[.slice none 0 0] 68)) p W.heap.size [] [] := by
 have ga := (Below.refl _ W).alloc (Nat.le_refl _) (.cells #[.slice none 0 0] 68)
 refine ⟨S, fun b => b = W.heap.size, .slice none 0 0, h.later ga, ⟨heap_alloc_new W _, Dk.Own.nil _ _, (fun b hb => by cases hb), rfl, (fun b hb => by rw [hb]; simp), (fun b hb => by rw [hb]; exact g.size), (fun x hx => by cases hx)⟩, fun b hb e => ?_, g.alloc g.size _⟩
 have := h.lt b hb
 omega
def Sk.One (w0 W : World) (p : Nat) (M : List Dd.D) : Prop := ∃ S, Sk.PD w0.heap.size S W p M ∧ Below w0.heap.size w0 W
theorem Sk.One.later {w0 W W' : World} {p : Nat} {M : List Dd.D} (h : Sk.One w0 W p M) (g : Below W.heap.size W W') : Sk.One w0 W' p M := by
 obtain ⟨S, h1, h4⟩ := h
 exact ⟨S, h1.later g, h4.trans (g.mono h4.size)⟩
theorem Sk.One.put {w0 W : World} {p : Nat} {M : List Dd.D} (h : Sk.One w0 W p M) (hT : Sk.Tab w0) {x : Sk.E} (hx : Sk.Got w0 x.rv x.row) (hl : M.length ≤ 100000) :
 Calls Tryz.prog 30 #[.pointer (some ⟨p, 0, none⟩), .agg #[.bool x.gone, x.rv]] W fun e w' => e = .returned (.bool (!x.row.isEmpty)) ∧ Sk.One w0 w' p (Sk.pd M x.d) ∧ Below w0.heap.size W w' := by
 obtain ⟨S, h1, h4⟩ := h
 refine (h1.step h4.size (hT.later h4 hT.lt) hT.lt (hx.later h4) hl).mono ?_
 rintro e w' ⟨he, ⟨S1, g1, _⟩, _, g4⟩
 exact ⟨he, ⟨S1, g1, h4.trans g4⟩, g4⟩
structure Sk.Ds (w0 : World) (a : Option Addr) (n c : Nat) (L : List Sk.E) : Prop where
 len : L.length = n
 got : ∀ x ∈ L, Sk.Got w0 x.rv x.row
 at_ : ∀ W, Below w0.heap.size w0 W → ∀ i x, L[i]? = some x → ∃ b o, a = some ⟨b, o, none⟩ ∧ W.cell? ⟨b, o + i * 2, none⟩ = some (.bool x.gone) ∧ W.cell? ⟨b, o + i * 2 + 1, none⟩ = some x.rv
theorem Sk.Deeds.later {w w' : World} {v : Value} {L : List Sk.E} (h : Sk.Deeds w v L) (g : Below w.heap.size w w') : Sk.Deeds w' v L := by
 obtain ⟨a, c, hv, h1, h2, h3, h4⟩ := h
 refine ⟨a, c, hv, h1, h2, fun x hx => (h3 x hx).later g, ?_⟩
 rcases h4 with h4 | ⟨b, o, ha, hb, hc⟩
 ·exact .inl h4
 ·exact .inr ⟨b, o, ha, Nat.lt_of_lt_of_le hb g.size, fun i x hx => ⟨(g.cell (p := ⟨b, o + i * 2, none⟩) hb).trans (hc i x hx).1, (g.cell (p := ⟨b, o + i * 2 + 1, none⟩) hb).trans (hc i x hx).2⟩⟩
theorem Sk.Deeds.early {w0 : World} {v : Value} {L : List Sk.E} (h : Sk.Deeds w0 v L) : ∃ a n c, v = .slice a n c ∧ n ≤ c ∧ c ≤ 9223372036854775807 ∧ Sk.Ds w0 a (min n 400) c (L.take 400) ∧ n = L.length := by
 obtain ⟨a, c, hv, h1, h2, h3, h4⟩ := h
 refine ⟨a, L.length, c, hv, h1, h2, ⟨by rw [List.length_take]; omega, fun x hx => h3 x (List.mem_of_mem_take hx), fun W g i x hx => ?_⟩, rfl⟩
 have hx' : L[i]? = some x := by
  rw [List.getElem?_take] at hx
  split at hx
  ·exact hx
  ·cases hx
 rcases h4 with rfl | ⟨b, o, ha, hb, hc⟩
 ·cases hx'
 ·obtain ⟨e0, e1⟩ := hc i x hx'
  exact ⟨b, o, ha, (g.cell (p := ⟨b, o + i * 2, none⟩) hb).trans e0, (g.cell (p := ⟨b, o + i * 2 + 1, none⟩) hb).trans e1⟩
theorem Sk.Got.slice {w : World} {v : Value} {l : List Kn.V} (h : Sk.Got w v l) : ∃ a c, v = .slice a l.length c := by
 obtain ⟨a, c, hv, _⟩ := h
 exact ⟨a, c, hv⟩
theorem Sk.blk_kept {b : Nat} {cs : Array Value} {t : TypeId} {fr : Nat × Nat} {W W' : World} {row : Option Nat} (h : W.heap[b]? = some (.cells cs t fr)) (hg : W.grownBy W' row) (hr : ∀ r, row = some r → ∃ o : Obj, W.heap[r]? = some o ∧ o.isCells = false) : W'.heap[b]? = some (.cells cs t fr) := by
 refine (hg.block b (Array.getElem?_eq_some_iff.1 h).1 fun e => ?_).trans h
 obtain ⟨o, ho, hc⟩ := hr b e.symm
 rw [h] at ho
 cases Option.some.inj ho
 cases hc
theorem Sk.one_set {W : World} {b : Nat} {t : TypeId} {u : Value} (v : Value) (h : W.heap[b]? = some (.cells #[u] t (0, 0))) : (W.setCell ⟨b, 0, none⟩ v).heap[b]? = some (.cells #[v] t (0, 0)) := by
 simp [World.setCell, Array.getElem?_modify, h]
theorem Sk.cell_blk {W : World} {b : Nat} {t : TypeId} {u : Value} (h : W.heap[b]? = some (.cells #[u] t (0, 0))) : W.cell? ⟨b, 0, none⟩ = some u := by rw [cell_of_row _ _ _ _ _ _ h]; rfl
theorem Sk.range_wa {P : Program} {α : Type} {g : Operand} {ps : Array Tmp} {assign body : Code} {Q : Exit → Act → World → Prop} {a : Act} {w : World} {gf : Nat} {lb : Array Value}
 (hg : a.eval g = .func (.func gf) #[] lb) (eg : ∀ args w, (callFunc gf args).run P w = .ok (.enter gf args) w)
 {En : α → Array Value → World → Prop} {n₀ : Nat} {xs : List α} {w0 : World} (hseq : Sk.Seq P gf lb En n₀ xs w0) (hb0 : Below w0.heap.size w0 w) (hn0 : n₀ ≤ w.heap.size)
 (hps : ∀ x args W, En x args W → args.size = ps.size)
 (I : List α × (Nat → Prop) → World → Prop) (Ix : Code → List α × (Nat → Prop) → World → Prop) (hI : OwnFrom w.heap.size I) (hIx : ∀ c, OwnFrom w.heap.size (Ix c)) (h0 : I ([], Sk.no) w)
 (Ax : Array Value → List α × (Nat → Prop) → α → Act → World → Prop) (hAx : ∀ pre x a', OwnFrom w.heap.size fun (_ : Unit) W => Ax a.tmps pre x a' W)
 (hassign : ∀ l pre O x args W, I (pre, O) W → En x args W → pre ++ [x] <+: xs → Below n₀ w W →
  assign.wpIn (Fence.wide.inRound l) 7 P (Exit.then (fun a' W' => Below W.heap.size W W' ∧ Ax a.tmps (pre, O) x a' W') (fun _ _ _ => False)) { tmps := (ps.zip args).foldl (fun t (p, v) => t.setIfInBounds p v) a.tmps, defers := [] } W)
 (hbody : ∀ l pre O x a' W, w.heap.size ≤ l → (∃ r, W.heap[l]? = some (.loop r)) → Ax a.tmps (pre, O) x a' W → pre ++ [x] <+: xs → Below n₀ w W → body.wpIn (Fence.wide.inRound l) 7 P (Sk.left w.heap.size n₀ I Ix (pre ++ [x]) O W) a' W)
 (hdone : ∀ D O W, w.heap.size ≤ D → I (xs, O) W → W.heap[D]? = some (.deferred (some [])) → Q .normal { a with defers := { target := .collected D, args := #[] } :: a.defers } W)
 (hstop : ∀ D c pre O W, w.heap.size ≤ D → pre <+: xs → pre ≠ [] → Ix c (pre, O) W → W.heap[D]? = some (.deferred (some [])) → c.wpIn Fence.wide 9 P Q { a with defers := { target := .collected D, args := #[] } :: a.defers } W) :
 (Code.rangeFunc g ps assign body).wpIn Fence.wide 9 P Q a w :=
 Sk.range_w hg eg hseq hb0 hn0 hps I Ix hI hIx h0 (Ax a.tmps) hAx hassign hbody hdone hstop
end
section
open Go Go.RowKit Go.Shelf
structure Sk.Tri (w0 W : World) (p q c : Nat) (o : Obj) (M : List Dd.D) (N : List Sk.E) : Prop where
 all : ∃ S S' v, Sk.PD w0.heap.size S W p M ∧ Sk.RL S' w0.heap.size W q v N ∧ (∀ b, S b → ¬ S' b) ∧ ¬ S c ∧ ¬ S' c
 at_ : W.heap[c]? = some o
 below : Below w0.heap.size w0 W
theorem Sk.Tri.lt {w0 W : World} {p q c : Nat} {o : Obj} {M : List Dd.D} {N : List Sk.E} (h : Sk.Tri w0 W p q c o M N) : c < W.heap.size := (Array.getElem?_eq_some_iff.1 h.at_).1
theorem Sk.Tri.later {w0 W W' : World} {p q c : Nat} {o : Obj} {M : List Dd.D} {N : List Sk.E} (h : Sk.Tri w0 W p q c o M N) (g : Below W.heap.size W W') : Sk.Tri w0 W' p q c o M N := by
 obtain ⟨S, S', v, h1, h2, h3, h4, h5⟩ := h.all
 exact ⟨⟨S, S', v, h1.later g, h2.kept g, h3, h4, h5⟩, (g.block c h.lt).trans h.at_, h.below.trans (g.mono h.below.size)⟩
theorem Sk.Tri.head {w0 W : World} {p q c : Nat} {o : Obj} {M : List Dd.D} {N : List Sk.E} (h : Sk.Tri w0 W p q c o M N) : ∃ a cc, W.cell? ⟨q, 0, none⟩ = some (.slice a N.length cc) := by
 obtain ⟨S, S', v, h1, h2, _⟩ := h.all
 obtain ⟨a, cc, rfl⟩ := h2.slice
 exact ⟨a, cc, Sk.cell_blk h2.blk⟩
theorem Sk.Tri.new {w0 W W1 : World} {p : Nat} {S : Nat → Prop} {c : Nat} {o : Obj} (h : Sk.PD w0.heap.size S W p []) (g : Below w0.heap.size w0 W) (hW : W1 = ((W.alloc (.cells #[.slice none 0 0] 68)).alloc o)) (hc : c = W.heap.size + 1) :
 Sk.Tri w0 W1 p W.heap.size c o [] [] := by
 subst hc
 obtain ⟨WX, hWX⟩ : ∃ WX, WX = W.alloc (.cells #[.slice none 0 0] 68) := ⟨_, rfl⟩
 have hsz : WX.heap.size = W.heap.size + 1 := by rw [hWX]; simp
 obtain ⟨S1, S', v, h1, h2, h3, h4⟩ := Sk.Two.new h g
 rw [← hWX] at h1 h2 h4 hW
 have ga : Below WX.heap.size WX W1 := by rw [hW]; exact (Below.refl _ WX).alloc (Nat.le_refl _) o
 refine ⟨⟨S1, S', v, h1.later ga, h2.kept ga, h3, fun hb => ?_, fun hb => ?_⟩, by rw [hW, ← hsz]; exact heap_alloc_new WX o, h4.trans (ga.mono h4.size)⟩
 ·have := h1.lt _ hb
  omega
 ·have := h2.alive _ hb
  omega
theorem Sk.Rw.vals {base : Nat} {w : World} {v : Value} {l : List Kn.V} (h : Sk.Rw base w v l) : Kn.Vals w v l := by
 rcases h.form with ⟨rfl, rfl⟩ | ⟨g, c, rfl, hc, hm, _, hg⟩
 ·exact ⟨none, 0, rfl, .inl rfl⟩
 ·refine ⟨_, c, rfl, .inr ⟨g, 0, rfl, hg, by unfold maxLen at hm; omega, fun i x hx => ?_⟩⟩
  rw [Nat.zero_add]
  exact ⟨h.cell Sk.ve_len (g := g) rfl hx (j := 0) (by decide), h.cell Sk.ve_len (g := g) rfl hx (j := 1) (by decide), h.cell Sk.ve_len (g := g) rfl hx (j := 2) (by decide)⟩
end
section
open Go
section
variable {P : Program} {ops : Array Oper} {Q : Exit → Act → World → Prop} {md : Region.Mode} {S S' : World → Prop}
def Sk.Calm (Q : Exit → Act → World → Prop) : Exit → Act → World → Prop
 | .panic _, _, _ => False
 | .outgrown, _, _ => False
 | e, a, w => Q e a w
theorem Sk.Calm.imp {Q : Exit → Act → World → Prop} : ∀ (e : Exit) (a : Act) (w : World), Sk.Calm Q e a w → Q e a w := fun e a w h => by
 cases e <;> first | exact h | exact (h : False).elim
theorem Sk.Calm.normal {Q : Exit → Act → World → Prop} {a : Act} {w : World} (h : Q .normal a w) : Sk.Calm Q .normal a w := h
theorem Sk.Calm.shut {Q : Exit → Act → World → Prop} : ¬ LetsOut (Sk.Calm Q) := fun ⟨_, _, h⟩ => h
def Sk.noDefer (ops : Array Oper) : Bool := ops.all fun o => match o.op with | .defer _ => false | _ => true
theorem Sk.noDefer_spec (h : Sk.noDefer ops = true) {i : Nat} {o : Oper} (hi : ops[i]? = some o) : ∀ c, o.op ≠ .defer c := fun c e => by
 obtain ⟨hl, rfl⟩ := Array.getElem?_eq_some_iff.1 hi
 unfold Sk.noDefer at h
 have := Array.all_eq_true.1 h i hl
 rw [e] at this
 cases this
end
end
section
open Go Go.RowKit
def Sk.nw (L : List Sk.E) (x : Sk.E) (i : Nat) : Nat → Sk.E
 | 0 => x
 | j + 1 => match L[i + j]? with
   | some y => if (!y.row.isEmpty && Kn.cmp (Sk.ke y) (Sk.ke x) == 0) = true then y else Sk.nw L x i j
   | none => Sk.nw L x i j
def Sk.Un (L : List Sk.E) : Prop := L.Pairwise fun x y => x.row ≠ [] → y.row ≠ [] → Kn.cmp (Sk.ke x) (Sk.ke y) ≠ 0
theorem Sk.Un.reverse {L : List Sk.E} (h : Sk.Un L) : Sk.Un L.reverse := by
 unfold Sk.Un
 rw [List.pairwise_reverse]
 refine h.imp fun {a b} g ha hb => ?_
 have := g hb ha
 have := Sk.cmp_anti (Sk.ke a) (Sk.ke b)
 omega
theorem Sk.Got.key {w : World} {v : Value} {l r : List Kn.V} {k : Kn.V} (h : Sk.Got w v l) (hl : l = k :: r) : ∃ g go c, v = .slice (some ⟨g, go, none⟩) l.length c ∧ g < w.heap.size ∧ Kn.At w g go k ∧ Kn.Z k := by
 obtain ⟨a, c, hv, h⟩ := h
 obtain ⟨a', c', hv', hz, _, h'⟩ := h (by simp [hl])
 rcases h' with ⟨_, _, h0⟩ | ⟨b, o, ha, hb, hc⟩
 ·rw [hl] at h0; cases h0
 ·have := hc 0 k (by rw [hl]; rfl)
  rw [Nat.zero_mul, Nat.add_zero] at this
  exact ⟨b, o, c', by rw [hv', ha], hb, this, hz k (by simp [hl])⟩
theorem Sk.Rw.key {B : Nat} {w : World} {v : Value} {l r : List Kn.V} {k : Kn.V} (h : Sk.Rw B w v l) (hl : l = k :: r) : ∃ g c, v = .slice (some ⟨g, 0, none⟩) l.length c ∧ B ≤ g ∧ g < w.heap.size ∧ Kn.At w g 0 k := by
 rcases h.form with ⟨_, e⟩ | ⟨g, c, rfl, _, _, hb, hg⟩
 ·rw [hl] at e; cases e
 ·have hx : l[0]? = some k := by rw [hl]; rfl
  exact ⟨g, c, rfl, hb, hg, ⟨h.cell Sk.ve_len (g := g) rfl hx (j := 0) (by decide), h.cell Sk.ve_len (g := g) rfl hx (j := 1) (by decide), h.cell Sk.ve_len (g := g) rfl hx (j := 2) (by decide)⟩⟩
theorem Sk.PD.z {B : Nat} {S : Nat → Prop} {w : World} {p : Nat} {L : List Dd.D} (h : Sk.PD B S w p L) : ∀ d ∈ L, Kn.Z (Sk.kd d) := fun d hd => by
 obtain ⟨⟨N, hN, rfl⟩, _⟩ := h
 obtain ⟨x, hx, rfl⟩ := List.mem_map.1 hd
 obtain ⟨_, hne, hz, _⟩ := hN.rows x hx
 cases hr : x.row with
 | nil => exact absurd hr hne
 | cons k r =>
   have : Sk.kd x.d = k := by unfold Sk.kd; rw [show x.d.row = k :: r from hr]; rfl
   rw [this]
   exact hz k (by rw [hr]; exact List.mem_cons_self)
end
section
open Go Go.RowKit Go.Shelf
section
variable {P : Program} {ops : Array Oper} {Q : Exit → Act → World → Prop}
theorem Sk.list_round {l n : Nat} (hL : ¬ LetsOut Q) : ∀ (lst : List Oper) (a : Act) (w : World), (∀ o ∈ lst, ∀ c, o.op ≠ .defer c) → wpList P ops Q lst a w → wpListIn (Fence.wide.inRound l) n P ops Q lst a w
 | [], _, _, _, h => h
 | o :: rest, a, w, hd, h => by
   have hr : ∀ a' w', wpList P ops Q rest a' w' → wpListIn (Fence.wide.inRound l) n P ops Q rest a' w' := fun a' w' h' => Sk.list_round hL rest a' w' (fun x hx => hd x (List.mem_cons_of_mem _ hx)) h'
   unfold wpList at h
   unfold wpListIn
   split
   ·rename_i hw
    simp only [hw, if_true] at h
    rcases h with h | ⟨_, h⟩
    case inr => exact absurd h hL
    refine Oper.wpIn_mono (fun a' w' h' => hr a' w' h') ?_
    refine ⟨fun _ _ => trivial, ?_⟩
    rw [Oper.semAt_eq _ _ _ (hd o List.mem_cons_self)]
    unfold Oper.wp at h
    generalize (execOp a.eval o).run P w = r at h ⊢
    cases r with
    | ok x w' =>
      cases x with
      | value v => exact h
      | skip => exact h
      | defer d => exact h
      | enter f args => exact ⟨fun e => (by cases e), CallsIn.inRound l (callsIn_wide.2 h)⟩
      | row row args =>
        refine ⟨fun e => (by cases e), fun c cs _ => ?_⟩
        obtain ⟨v, w'', hr', hs⟩ := h c cs
        exact ⟨v, w'', hr', stepsIn_wide.2 hs⟩
      | _ => exact (h : False).elim
    | halt x w' =>
      cases x with
      | panic v => exact h
      | _ => exact (h : False).elim
   ·rename_i hw
    simp only [hw] at h
    exact ⟨fun _ _ => trivial, hr _ _ h⟩
theorem Sk.regionL_round {id l n : Nat} {lst : List Oper} {a : Act} {w : World} (hd : Sk.noDefer lst.toArray = true) (h : wpList P lst.toArray (Sk.Calm Q) lst a w) : (Code.region id lst.toArray false).wpIn (Fence.wide.inRound l) n P Q a w :=
 Code.wpIn_mono Sk.Calm.imp (wpIn_region_lit (Sk.list_round Sk.Calm.shut lst a w (fun o ho => by
  obtain ⟨i, hi, rfl⟩ := List.getElem_of_mem ho
  exact Sk.noDefer_spec hd (i := i) (by simp [hi])) h))
end
theorem Sk.wpList_app {base : Nat} {w0 : World} {v : Value} {M : List Sk.E} (K : List Sk.E) (hone : ∀ x ∈ K, ∃ a n c, x.rv = .slice a n c) (hb : base ≤ w0.heap.size) (hown : Dk.Own 26 2 Sk.E.enc base w0 v M) (hl : M.length + K.length ≤ 4194304) {u : Value} (hu : Dk.Src Sk.E.enc w0 u K)
 {ops : Array Oper} {rest : List Oper} {o : Oper} {a : Act} {Q : Exit → Act → World → Prop} (s x : Operand) (hgd : Region.wanted o (yielded ops a.tmps) = true)
 (ho : o.op = .call { callee := .builtin .append, args := #[s, x], argTypes := #[28, 28] }) (hs : a.eval s = v) (hx : a.eval x = u)
 (h : ∀ v' w', Dk.Own 26 2 Sk.E.enc base w' v' (M ++ K) → Ty.Grew w0 w' v v' → wpList Tryz.prog ops Q rest (a.put o.dst v') w') :
 wpList Tryz.prog ops Q (o :: rest) a w0 := by
 refine wpList_step fun Kx hKx => ?_
 rw [if_pos hgd]
 obtain ⟨v', w', hr, h2, h3⟩ := Sk.step_deed K hone hb hown hl hu o.type
 unfold Oper.wp execOp
 simp only [ho, resolve, invoke, builtin, Sem.run_bind, Sem.run_pure, Result.andThen_ok, List.map_toArray, List.map_cons, List.map_nil, hs, hx, hr]
 exact hKx _ _ (h v' w' h2 h3)
def Sk.Duo (w0 W : World) (p q : Nat) (M N : List Dd.D) : Prop :=
 ∃ S S', Sk.PD w0.heap.size S W p M ∧ Sk.PD w0.heap.size S' W q N ∧ (∀ b, S b → ¬ S' b) ∧ Below w0.heap.size w0 W
theorem Sk.Duo.below {w0 W : World} {p q : Nat} {M N : List Dd.D} (h : Sk.Duo w0 W p q M N) : Below w0.heap.size w0 W := by
 obtain ⟨_, _, _, _, _, h⟩ := h
 exact h
theorem Sk.Duo.later {w0 W W' : World} {p q : Nat} {M N : List Dd.D} (h : Sk.Duo w0 W p q M N) (g : Below W.heap.size W W') : Sk.Duo w0 W' p q M N := by
 obtain ⟨S, S', h1, h2, h3, h4⟩ := h
 exact ⟨S, S', h1.later g, h2.later g, h3, h4.trans (g.mono h4.size)⟩
theorem Sk.Duo.new {w0 W W' : World} {p q : Nat} {S : Nat → Prop} (h : Sk.PD w0.heap.size S W p []) (g : Below w0.heap.size w0 W) (h' : Sk.PD w0.heap.size (fun b => b = W.heap.size) W' W.heap.size []) (g' : Below W.heap.size W W') (hq : q = W.heap.size) : Sk.Duo w0 W' p q [] [] := by
 subst hq
 refine ⟨S, _, h.later g', h', fun b hb e => ?_, g.trans (g'.mono g.size)⟩
 have := h.lt b hb
 omega
theorem Sk.Duo.put {w0 W : World} {p q : Nat} {M N : List Dd.D} (h : Sk.Duo w0 W p q M N) (hT : Sk.Tab w0) {x : Sk.E} (hx : Sk.Got w0 x.rv x.row) (hl : M.length ≤ 100000) :
 Calls Tryz.prog 30 #[.pointer (some ⟨p, 0, none⟩), .agg #[.bool x.gone, x.rv]] W fun e w' => e = .returned (.bool (!x.row.isEmpty)) ∧ Sk.Duo w0 w' p q (Sk.pd M x.d) N ∧ Below w0.heap.size W w' := by
 obtain ⟨S, S', h1, h2, h3, h4⟩ := h
 refine (h1.step h4.size (hT.later h4 hT.lt) hT.lt (hx.later h4) hl).mono ?_
 rintro e w' ⟨he, ⟨S1, g1, g2⟩, g3, g4⟩
 refine ⟨he, ⟨S1, S', g1, h2.same g3.size (fun b hb => g3.block b (h2.lt b hb) fun h => h3 b h hb), fun b hb h => ?_, h4.trans g4⟩, g4⟩
 rcases g2 b hb with hb | hb
 ·exact h3 b hb h
 ·have := h2.lt b h
  omega
theorem Sk.own_own {α : Type} {e : TypeId} {k : Nat} {enc : α → List Value} (B b : Nat) (v : Value) (L : List α) : OwnFrom B fun (_ : Unit) W => Dk.Own e k enc b W v L := fun _ W W' row hs hg hr => by
 refine hs.same fun k hk => hg.block k (hs.lt k hk) fun e => ?_
 obtain ⟨_, ob, ho, hc⟩ := hr k e.symm
 obtain ⟨cs, hcs⟩ := hs.typed k hk
 rw [hcs] at ho
 cases Option.some.inj ho
 cases hc
structure Sk.Acc (m B : Nat) (w9 : World) (na : Nat) (O : Nat → Prop) (l : List Dd.D) (W : World) : Prop where
 b : Below m w9 W
 acc : ∃ (v : Value) (L : List Sk.E), W.heap[na]? = some (.cells #[v] 28 (0, 0)) ∧ Dk.Own 26 2 Sk.E.enc B W v L ∧ L.map Sk.E.d = l ∧ (∀ b, v.ownBlock = some b → O b) ∧ ∀ y ∈ L, Sk.Rw m W y.rv y.row
theorem Sk.Acc.own {m B C : Nat} {w9 : World} {na : Nat} (hm : m ≤ C) (hm9 : m ≤ w9.heap.size) : OwnFrom C fun (s : List Dd.D × (Nat → Prop)) W => Sk.Acc m B w9 na s.2 s.1 W := by
 rintro s A' B' row ⟨h1, v, L, h2, h3, h4, h5, h6⟩ hg hr
 exact ⟨h1.grown hg (by have := h1.size; omega) fun k e => Nat.le_trans hm (hr k e).1, v, L, Sk.blk_kept h2 hg fun r e => (hr r e).2, Sk.own_own _ _ _ _ () _ _ row h3 hg hr, h4, h5, fun y hy => Sk.Rw.own _ _ _ _ () _ _ row (h6 y hy) hg hr⟩
theorem Sk.Acc.later {m B : Nat} {w9 W W' : World} {na : Nat} {O : Nat → Prop} {l : List Dd.D} (h : Sk.Acc m B w9 na O l W) (hm9 : m ≤ w9.heap.size) (g : Below W.heap.size W W') : Sk.Acc m B w9 na O l W' := by
 obtain ⟨h1, v, L, h2, h3, h4, h5, h6⟩ := h
 exact ⟨h1.trans (g.mono (Nat.le_trans hm9 h1.size)), v, L, (g.block _ (Array.getElem?_eq_some_iff.1 h2).1).trans h2, h3.kept g, h4, h5, fun y hy => (h6 y hy).kept g⟩
theorem Sk.Rw.off {m : Nat} {W : World} {v : Value} {l : List Kn.V} (h : Sk.Rw m W v l) {k : Nat} (hk : v.ownBlock = some k) {cs : Array Value} {t : TypeId} {b : Nat} (hb : W.heap[b]? = some (.cells cs t (0, 0))) (ht : t ≠ 43) : k ≠ b := fun e => by
 obtain ⟨c, hc⟩ := h.typed k hk
 rw [e, hb] at hc
 simp only [Option.some.injEq, Obj.cells.injEq] at hc
 exact ht hc.2.1
theorem Sk.Acc.step {m B : Nat} {w9 W w2 w3 : World} {na : Nat} {O : Nat → Prop} {l : List Dd.D} {v v' : Value} {L : List Sk.E} {x : Sk.E} (hB : B = w9.heap.size) (hm : m ≤ na) (hna : na < B) (h1 : Below m w9 W) (h2 : W.heap[na]? = some (.cells #[v] 28 (0, 0)))
 (h3 : Dk.Own 26 2 Sk.E.enc B W v L) (h4 : L.map Sk.E.d = l) (h5 : ∀ b, v.ownBlock = some b → O b) (h6 : ∀ y ∈ L, Sk.Rw m W y.rv y.row) (hx : Sk.Rw m W x.rv x.row)
 (ho : Dk.Own 26 2 Sk.E.enc B w2 v' (L ++ [x])) (hg : Ty.Grew W w2 v v') (hw3 : w3 = w2.setCell ⟨na, 0, none⟩ v') :
 ∃ O', Sk.Kp B O O' W w3 ∧ Below m W w3 ∧ Sk.Acc m B w9 na O' (l ++ [x.d]) w3 := by
 have hvB : ∀ b, v.ownBlock = some b → B ≤ b := fun b hb => (World.ownsRow.lt h3 b hb).1
 have hvB' : ∀ b, v'.ownBlock = some b → B ≤ b := fun b hb => (World.ownsRow.lt ho b hb).1
 have hnaW : na < W.heap.size := (Array.getElem?_eq_some_iff.1 h2).1
 have hna2 : w2.heap[na]? = some (.cells #[v] 28 (0, 0)) := (hg.by_.block na hnaW fun e => by have := hvB na e.symm; omega).trans h2
 have hs3 : w3.heap.size = w2.heap.size := by rw [hw3]; simp [World.setCell]
 have h23 : ∀ b, b ≠ na → w3.heap[b]? = w2.heap[b]? := fun b hb => by rw [hw3]; exact Below.heap_setCell _ _ _ _ (by first | exact hb | exact hb.symm)
 have hW3 : ∀ b, b < W.heap.size → v.ownBlock ≠ some b → b ≠ na → w3.heap[b]? = W.heap[b]? := fun b hb hv hn => (h23 b hn).trans (hg.by_.block b hb fun e => hv (by first | exact e | exact e.symm))
 have hrow : ∀ (u : Value) (r : List Kn.V), Sk.Rw m W u r → Sk.Rw m w3 u r := fun u r hr => hr.same fun k hk => hW3 k (hr.lt k hk) (fun e => by
  obtain ⟨cs, hcs⟩ := h3.typed k e
  exact hr.off hk hcs (by decide) rfl) (hr.off hk h2 (by decide))
 have hb3 : Below m W w3 := by
  rw [hw3]
  exact (hg.below (Nat.le_trans hm (Nat.le_of_lt hnaW)) fun k hk => by have := hvB k hk; omega).setCell (p := ⟨na, 0, none⟩) hm _
 refine ⟨fun b => O b ∨ v'.ownBlock = some b, ⟨by have := hg.by_.size; omega, fun b hb => ?_, fun b hb hbW hO => ?_⟩, hb3, ⟨h1.trans hb3, v', L ++ [x], ?_, ?_, ?_, fun b hb => .inr hb, fun y hy => ?_⟩⟩
 ·rcases hb with hb | hb
  ·exact .inl hb
  ·rcases hg.own with e | ⟨k, e, hk⟩
   ·exact .inl (h5 b (e ▸ hb))
   ·rw [e] at hb
    cases Option.some.inj hb
    exact .inr hk
 ·exact hW3 b hbW (fun e => hO (h5 b e)) (by omega)
 ·rw [hw3]; exact Sk.one_set _ hna2
 ·exact ho.same fun b hb => h23 b (by have := hvB' b hb; omega)
 ·rw [List.map_append, h4]; rfl
 ·rcases List.mem_append.1 hy with hy | hy
  ·exact hrow _ _ (h6 y hy)
  ·rw [List.mem_singleton] at hy
   subst hy
   exact hrow _ _ hx
end
end Go.Proofs.YtkhiemkekmdhgaaGreatDoor
