/-
  The document's list of deeds: Put of a deed without a value.
  The laws of skip: what is there behind puts; the program's list and the document's, side by side.
-/
import Derived.Test.YtfjhffldhpcdmaaDoorS7
import Derived.Test.YtfjhffldhpcdmaaDoorZAK
namespace Go.Proofs.YtfjhffldhpcdmaaDoor
open Go.RowKit
set_option maxRecDepth 100000 in
theorem Sk.rputno_c (p : Nat) (gn : Bool) (a : Option Addr) (c : Nat) (w : World) :
    Calls Tryd.prog 13 #[.pointer (some ⟨p, 0, none⟩), .agg #[.bool gn, .slice a 0 c]] w fun e w' => e = .returned (.bool false) ∧ Below w.heap.size w w' := by
  go_enter Tryd.func13, Tryd.ntmps13
  go_wp2
  go_ret
  exact ⟨rfl, (Below.refl _ w).alloc (Nat.le_refl _) _⟩
end Go.Proofs.YtfjhffldhpcdmaaDoor

namespace Go.Proofs.YtfjhffldhpcdmaaDoor
open Go Go.RowKit Go.Shelf
def Sk.pe (M : List Sk.E) (x : Sk.E) : List Sk.E := if x.row.isEmpty = true then M else Sk.put Sk.ke M x
def Sk.pd (M : List Dd.D) (d : Dd.D) : List Dd.D := if d.row.isEmpty = true then M else Sk.put Sk.kd M d
def Sk.puts (L : List Sk.E) : List Sk.E := L.foldl Sk.pe []
theorem Sk.pd_map (M : List Sk.E) (x : Sk.E) : Sk.pd (M.map Sk.E.d) x.d = (Sk.pe M x).map Sk.E.d := by
  unfold Sk.pd Sk.pe
  by_cases h : x.row.isEmpty = true
  · rw [if_pos h, if_pos (show x.d.row.isEmpty = true from h)]
  · rw [if_neg h, if_neg (show ¬ x.d.row.isEmpty = true from h)]
    exact Sk.map_put Sk.E.d Sk.kd (fun _ => rfl) M x
theorem Sk.puts_step {L : List Sk.E} {i : Nat} {x : Sk.E} (h : L[i]? = some x) : Sk.puts (L.take (i + 1)) = Sk.pe (Sk.puts (L.take i)) x := by
  unfold Sk.puts
  rw [List.take_add_one, h, List.foldl_append]
  rfl
theorem Sk.pe_len (M : List Sk.E) (x : Sk.E) : (Sk.pe M x).length ≤ M.length + 1 := by
  unfold Sk.pe
  split
  · omega
  · exact Sk.put_len (key := Sk.ke) M x
theorem Sk.puts_len (L : List Sk.E) : ∀ i, i ≤ L.length → (Sk.puts (L.take i)).length ≤ i
  | 0, _ => by simp [Sk.puts]
  | i + 1, h => by
    have h1 := Sk.puts_len L i (by omega)
    rw [Sk.puts_step (List.getElem?_eq_getElem (show i < L.length by omega))]
    have := Sk.pe_len (Sk.puts (L.take i)) (L[i]'(by omega))
    omega
theorem Sk.PD.step {B : Nat} {S : Nat → Prop} {w : World} {p : Nat} {M : List Dd.D} (h : Sk.PD B S w p M) (hB : B ≤ w.heap.size) (hT : Sk.Tab w) (hg : 0 < B) {x : Sk.E} (hx : Sk.Got w x.rv x.row) (hl : M.length ≤ 100000) :
    Calls Tryd.prog 12 #[.pointer (some ⟨p, 0, none⟩), .agg #[.bool x.gone, x.rv]] w fun e w' => e = .returned (.bool (!x.row.isEmpty)) ∧
      (∃ S1, Sk.PD B S1 w' p (Sk.pd M x.d) ∧ ∀ b, S1 b → S b ∨ w.heap.size ≤ b) ∧ Sk.Off S w w' ∧ Below B w w' := by
  obtain ⟨a, c, hv, hx⟩ := hx
  unfold Sk.pd
  by_cases hne : x.row = []
  · rw [hv, if_pos (show x.d.row.isEmpty = true by show x.row.isEmpty = true; simp [hne]), hne]
    refine (Sk.putno_c _ x.gone a c w).mono ?_
    rintro e w' ⟨rfl, g⟩
    exact ⟨rfl, ⟨S, h.later g, fun b hb => .inl hb⟩, Sk.Off.of_below g, g.mono hB⟩
  · have he : x.row.isEmpty = false := by simpa using hne
    rw [if_neg (show ¬ x.d.row.isEmpty = true by show ¬ x.row.isEmpty = true; simp [he]), he]
    refine (h.put hB hT hg x.gone (hx hne) hne hl).mono ?_
    rintro e w' ⟨rfl, h1, h2, h3⟩
    exact ⟨rfl, ⟨_, h1, fun b hb => by rcases hb with hb | hb; exact .inl hb; exact .inr hb.1⟩, h2, h3⟩
theorem Sk.RL.step {B : Nat} {S : Nat → Prop} {w : World} {p : Nat} {v : Value} {M : List Sk.E} (h : Sk.RL S B w p v M) {x : Sk.E} (hx : Sk.Got w x.rv x.row) (hr : Sk.Row B w x.rv x.row) (hl : M.length ≤ 100000) :
    Calls Tryd.prog 13 #[.pointer (some ⟨p, 0, none⟩), .agg #[.bool x.gone, x.rv]] w fun e w' => e = .returned (.bool (!x.row.isEmpty)) ∧
      (∃ S1 v1, Sk.RL S1 B w' p v1 (Sk.pe M x) ∧ ∀ b, S1 b → S b ∨ w.heap.size ≤ b) ∧ Sk.Off S w w' ∧ Below B w w' := by
  obtain ⟨a, c, hv, hx⟩ := hx
  unfold Sk.pe
  by_cases hne : x.row = []
  · rw [hv, if_pos (show x.row.isEmpty = true by simp [hne]), hne]
    refine (Sk.rputno_c _ x.gone a c w).mono ?_
    rintro e w' ⟨rfl, g⟩
    exact ⟨rfl, ⟨S, v, h.kept g, fun b hb => .inl hb⟩, Sk.Off.of_below g, g.mono h.le⟩
  · have he : x.row.isEmpty = false := by simpa using hne
    rw [if_neg (by simp [he]), he]
    refine (Sk.rput_c h x hr hne hl).mono ?_
    rintro e w' ⟨rfl, ⟨v1, h1⟩, h2⟩
    exact ⟨rfl, ⟨_, v1, h1, fun b hb => by rcases hb with hb | hb; exact .inl hb; exact .inr hb.1⟩, h2, h2.below h.le h.from_⟩
/-- The program's list and the document's. -/
def Sk.Two (w0 W : World) (p q : Nat) (M : List Dd.D) (N : List Sk.E) : Prop :=
  ∃ S S' v, Sk.PD w0.heap.size S W p M ∧ Sk.RL S' w0.heap.size W q v N ∧ (∀ b, S b → ¬ S' b) ∧ Below w0.heap.size w0 W
theorem Sk.Two.below {w0 W : World} {p q : Nat} {M : List Dd.D} {N : List Sk.E} (h : Sk.Two w0 W p q M N) : Below w0.heap.size w0 W := by
  obtain ⟨_, _, _, _, _, _, h⟩ := h
  exact h
theorem Sk.Two.later {w0 W W' : World} {p q : Nat} {M : List Dd.D} {N : List Sk.E} (h : Sk.Two w0 W p q M N) (g : Below W.heap.size W W') : Sk.Two w0 W' p q M N := by
  obtain ⟨S, S', v, h1, h2, h3, h4⟩ := h
  exact ⟨S, S', v, h1.later g, h2.kept g, h3, h4.trans (g.mono h4.size)⟩
theorem Sk.Two.new {w0 W : World} {p : Nat} {S : Nat → Prop} (h : Sk.PD w0.heap.size S W p []) (g : Below w0.heap.size w0 W) :
    Sk.Two w0 (W.alloc (.cells #[.slice none 0 0] 32)) p W.heap.size [] [] := by
  have ga := (Below.refl _ W).alloc (Nat.le_refl _) (.cells #[.slice none 0 0] 32)
  refine ⟨S, fun b => b = W.heap.size, .slice none 0 0, h.later ga, ⟨heap_alloc_new W _, Dk.Own.nil _ _, (fun b hb => by cases hb), rfl, (fun b hb => by rw [hb]; simp), (fun b hb => by rw [hb]; exact g.size), (fun x hx => by cases hx)⟩, fun b hb e => ?_, g.alloc g.size _⟩
  have := h.lt b hb
  omega
theorem Sk.Two.aput {w0 W : World} {p q : Nat} {M : List Dd.D} {N : List Sk.E} (h : Sk.Two w0 W p q M N) (hT : Sk.Tab w0) {x : Sk.E} (hx : Sk.Got w0 x.rv x.row) (hl : M.length ≤ 100000) :
    Calls Tryd.prog 12 #[.pointer (some ⟨p, 0, none⟩), .agg #[.bool x.gone, x.rv]] W fun e w' => e = .returned (.bool (!x.row.isEmpty)) ∧ Sk.Two w0 w' p q (Sk.pd M x.d) N ∧ Below w0.heap.size W w' := by
  obtain ⟨S, S', v, h1, h2, h3, h4⟩ := h
  refine (h1.step h4.size (hT.later h4 hT.lt) hT.lt (hx.later h4) hl).mono ?_
  rintro e w' ⟨he, ⟨S1, g1, g2⟩, g3, g4⟩
  refine ⟨he, ⟨S1, S', v, g1, h2.same g3.size (fun b hb => g3.block b (h2.alive b hb) fun h => h3 b h hb) g4, fun b hb h => ?_, h4.trans g4⟩, g4⟩
  rcases g2 b hb with hb | hb
  · exact h3 b hb h
  · have := h2.alive b h
    omega
theorem Sk.Two.rput {w0 W : World} {p q : Nat} {M : List Dd.D} {N : List Sk.E} (h : Sk.Two w0 W p q M N) {x : Sk.E} (hx : Sk.Got w0 x.rv x.row) (hl : N.length ≤ 100000) :
    Calls Tryd.prog 13 #[.pointer (some ⟨q, 0, none⟩), .agg #[.bool x.gone, x.rv]] W fun e w' => e = .returned (.bool (!x.row.isEmpty)) ∧ Sk.Two w0 w' p q M (Sk.pe N x) ∧ Below w0.heap.size W w' := by
  obtain ⟨S, S', v, h1, h2, h3, h4⟩ := h
  have hr : Sk.Row w0.heap.size W x.rv x.row := (hx.row (Nat.le_refl _)).below h4
  refine (h2.step (hx.later h4) hr hl).mono ?_
  rintro e w' ⟨he, ⟨S1, v1, g1, g2⟩, g3, g4⟩
  refine ⟨he, ⟨S, S1, v1, h1.same g3.size (fun b hb => g3.block b (h1.lt b hb) (h3 b hb)), g1, fun b hb h => ?_, h4.trans g4⟩, g4⟩
  rcases g2 b h with h | h
  · exact h3 b hb h
  · have := h1.lt b hb
    omega
/-- One list. -/
def Sk.One (w0 W : World) (p : Nat) (M : List Dd.D) : Prop := ∃ S, Sk.PD w0.heap.size S W p M ∧ Below w0.heap.size w0 W
theorem Sk.One.later {w0 W W' : World} {p : Nat} {M : List Dd.D} (h : Sk.One w0 W p M) (g : Below W.heap.size W W') : Sk.One w0 W' p M := by
  obtain ⟨S, h1, h4⟩ := h
  exact ⟨S, h1.later g, h4.trans (g.mono h4.size)⟩
theorem Sk.One.put {w0 W : World} {p : Nat} {M : List Dd.D} (h : Sk.One w0 W p M) (hT : Sk.Tab w0) {x : Sk.E} (hx : Sk.Got w0 x.rv x.row) (hl : M.length ≤ 100000) :
    Calls Tryd.prog 12 #[.pointer (some ⟨p, 0, none⟩), .agg #[.bool x.gone, x.rv]] W fun e w' => e = .returned (.bool (!x.row.isEmpty)) ∧ Sk.One w0 w' p (Sk.pd M x.d) ∧ Below w0.heap.size W w' := by
  obtain ⟨S, h1, h4⟩ := h
  refine (h1.step h4.size (hT.later h4 hT.lt) hT.lt (hx.later h4) hl).mono ?_
  rintro e w' ⟨he, ⟨S1, g1, _⟩, _, g4⟩
  exact ⟨he, ⟨S1, g1, h4.trans g4⟩, g4⟩
/-- The deeds that were handed over, at most so many of them. -/
structure Sk.Ds (w0 : World) (a : Option Addr) (n c : Nat) (L : List Sk.E) : Prop where
  len : L.length = n
  got : ∀ x ∈ L, Sk.Got w0 x.rv x.row
  at_ : ∀ W, Below w0.heap.size w0 W → ∀ i x, L[i]? = some x → ∃ b o, a = some ⟨b, o, none⟩ ∧ W.cell? ⟨b, o + i * 2, none⟩ = some (.bool x.gone) ∧ W.cell? ⟨b, o + i * 2 + 1, none⟩ = some x.rv
theorem Sk.Deeds.later {w w' : World} {v : Value} {L : List Sk.E} (h : Sk.Deeds w v L) (g : Below w.heap.size w w') : Sk.Deeds w' v L := by
  obtain ⟨a, c, hv, h1, h2, h3, h4⟩ := h
  refine ⟨a, c, hv, h1, h2, fun x hx => (h3 x hx).later g, ?_⟩
  rcases h4 with h4 | ⟨b, o, ha, hb, hc⟩
  · exact .inl h4
  · exact .inr ⟨b, o, ha, Nat.lt_of_lt_of_le hb g.size, fun i x hx => ⟨(g.cell (p := ⟨b, o + i * 2, none⟩) hb).trans (hc i x hx).1, (g.cell (p := ⟨b, o + i * 2 + 1, none⟩) hb).trans (hc i x hx).2⟩⟩
theorem Sk.Deeds.early {w0 : World} {v : Value} {L : List Sk.E} (h : Sk.Deeds w0 v L) : ∃ a n c, v = .slice a n c ∧ n ≤ c ∧ c ≤ 9223372036854775807 ∧ Sk.Ds w0 a (min n 400) c (L.take 400) ∧ n = L.length := by
  obtain ⟨a, c, hv, h1, h2, h3, h4⟩ := h
  refine ⟨a, L.length, c, hv, h1, h2, ⟨by rw [List.length_take]; omega, fun x hx => h3 x (List.mem_of_mem_take hx), fun W g i x hx => ?_⟩, rfl⟩
  have hx' : L[i]? = some x := by
    rw [List.getElem?_take] at hx
    split at hx
    · exact hx
    · cases hx
  rcases h4 with rfl | ⟨b, o, ha, hb, hc⟩
  · cases hx'
  · obtain ⟨e0, e1⟩ := hc i x hx'
    exact ⟨b, o, ha, (g.cell (p := ⟨b, o + i * 2, none⟩) hb).trans e0, (g.cell (p := ⟨b, o + i * 2 + 1, none⟩) hb).trans e1⟩
theorem Sk.Got.slice {w : World} {v : Value} {l : List Kn.V} (h : Sk.Got w v l) : ∃ a c, v = .slice a l.length c := by
  obtain ⟨a, c, hv, _⟩ := h
  exact ⟨a, c, hv⟩
/-- A block of cells is no block of a loop. -/
theorem Sk.blk_kept {b : Nat} {cs : Array Value} {t : TypeId} {fr : Nat × Nat} {W W' : World} {row : Option Nat} (h : W.heap[b]? = some (.cells cs t fr)) (hg : W.grownBy W' row) (hr : ∀ r, row = some r → ∃ o : Obj, W.heap[r]? = some o ∧ o.isCells = false) : W'.heap[b]? = some (.cells cs t fr) := by
  refine (hg.block b (Array.getElem?_eq_some_iff.1 h).1 fun e => ?_).trans h
  obtain ⟨o, ho, hc⟩ := hr b e.symm
  rw [h] at ho
  cases Option.some.inj ho
  cases hc
theorem Sk.one_set {W : World} {b : Nat} {t : TypeId} {u : Value} (v : Value) (h : W.heap[b]? = some (.cells #[u] t (0, 0))) : (W.setCell ⟨b, 0, none⟩ v).heap[b]? = some (.cells #[v] t (0, 0)) := by
  simp [World.setCell, Array.getElem?_modify, h]
theorem Sk.cell_blk {W : World} {b : Nat} {t : TypeId} {u : Value} (h : W.heap[b]? = some (.cells #[u] t (0, 0))) : W.cell? ⟨b, 0, none⟩ = some u := by rw [cell_of_row _ _ _ _ _ _ h]; rfl
/-- The end of a function whose result lies in a cell, behind a range over a function. -/
theorem Sk.done_cell {n : Nat} {fn : Func} {p : Tmp} (h : fn.results = #[.cell p 4]) {tmps : Array Value} {W : World} {D b : Nat} {x : Bool} {R : Ending → World → Prop} (hp : tmps.getD p undef = .pointer (some ⟨b, 0, none⟩)) (hK : W.heap[D]? = some (.deferred (some []))) (hc : W.heap[b]? = some (.cells #[.bool x] 4 (0, 0))) (hR : R (.returned (.bool x)) (W.putObj D (.deferred none))) :
    bodyPostM Fence.wide n Tryd.prog fn R .ret { tmps := tmps, defers := [{ target := .collected D, args := #[] }] } W := by
  have hne : b ≠ D := fun e => by rw [e, hK] at hc; cases hc
  have c1 : (W.putObj D (.deferred none)).cell? ⟨b, 0, none⟩ = some (.bool x) := Sk.cell_blk ((World.putObj_heap_other hne).trans hc)
  refine ⟨by simp, .inl ⟨_, _, rfl, run_takeDeferred hK, ?_⟩⟩
  refine ⟨.bool x, ?_, hR⟩
  rw [Sk.results_cell h, hp]
  go_simp
/-- The statement 'range' over such an iterator, the frame named. -/
theorem Sk.range_wa {P : Program} {α : Type} {g : Operand} {ps : Array Tmp} {assign body : Code} {Q : Exit → Act → World → Prop} {a : Act} {w : World} {gf : Nat} {lb : Array Value}
    (hg : a.eval g = .func (.func gf) #[] lb) (eg : ∀ args w, (callFunc gf args).run P w = .ok (.enter gf args) w)
    {En : α → Array Value → World → Prop} {n₀ : Nat} {xs : List α} {w0 : World} (hseq : Sk.Seq P gf lb En n₀ xs w0) (hb0 : Below w0.heap.size w0 w) (hn0 : n₀ ≤ w.heap.size)
    (hps : ∀ x args W, En x args W → args.size = ps.size)
    (I : List α × (Nat → Prop) → World → Prop) (Ix : Code → List α × (Nat → Prop) → World → Prop) (hI : OwnFrom w.heap.size I) (hIx : ∀ c, OwnFrom w.heap.size (Ix c)) (h0 : I ([], Sk.no) w)
    (Ax : Array Value → List α × (Nat → Prop) → α → Act → World → Prop) (hAx : ∀ pre x a', OwnFrom w.heap.size fun (_ : Unit) W => Ax a.tmps pre x a' W)
    (hassign : ∀ l pre O x args W, I (pre, O) W → En x args W → pre ++ [x] <+: xs → Below n₀ w W →
      assign.wpIn (Fence.wide.inRound l) 7 P (Exit.then (fun a' W' => Below W.heap.size W W' ∧ Ax a.tmps (pre, O) x a' W') (fun _ _ _ => False)) { tmps := (ps.zip args).foldl (fun t (p, v) => t.setIfInBounds p v) a.tmps, defers := [] } W)
    (hbody : ∀ l pre O x a' W, w.heap.size ≤ l → (∃ r, W.heap[l]? = some (.loop r)) → Ax a.tmps (pre, O) x a' W → pre ++ [x] <+: xs → Below n₀ w W → body.wpIn (Fence.wide.inRound l) 7 P (Sk.left w.heap.size n₀ I Ix (pre ++ [x]) O W) a' W)
    (hdone : ∀ D O W, w.heap.size ≤ D → I (xs, O) W → W.heap[D]? = some (.deferred (some [])) → Q .normal { a with defers := { target := .collected D, args := #[] } :: a.defers } W)
    (hstop : ∀ D c pre O W, w.heap.size ≤ D → pre <+: xs → pre ≠ [] → Ix c (pre, O) W → W.heap[D]? = some (.deferred (some [])) → c.wpIn Fence.wide 9 P Q { a with defers := { target := .collected D, args := #[] } :: a.defers } W) :
    (Code.rangeFunc g ps assign body).wpIn Fence.wide 9 P Q a w :=
  Sk.range_w hg eg hseq hb0 hn0 hps I Ix hI hIx h0 (Ax a.tmps) hAx hassign hbody hdone hstop
end Go.Proofs.YtfjhffldhpcdmaaDoor
