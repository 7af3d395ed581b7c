/-
  The laws of skip: two of the program's lists; deeds that are gathered within a range over a function.
-/
import Derived.Test.YtfjhffldhpcdmaaDoorZAP
import Derived.Test.YtfjhffldhpcdmaaDoorN29
import Derived.Test.YtfjhffldhpcdmaaDoorZAL
namespace Go.Proofs.YtfjhffldhpcdmaaDoor
open Go Go.RowKit Go.Shelf
section
variable {P : Program} {ops : Array Oper} {Q : Exit → Act → World → Prop}
theorem Sk.list_round {l n : Nat} (hL : ¬ LetsOut Q) : ∀ (lst : List Oper) (a : Act) (w : World), (∀ o ∈ lst, ∀ c, o.op ≠ .defer c) → wpList P ops Q lst a w → wpListIn (Fence.wide.inRound l) n P ops Q lst a w
  | [], _, _, _, h => h
  | o :: rest, a, w, hd, h => by
    have hr : ∀ a' w', wpList P ops Q rest a' w' → wpListIn (Fence.wide.inRound l) n P ops Q rest a' w' := fun a' w' h' => Sk.list_round hL rest a' w' (fun x hx => hd x (List.mem_cons_of_mem _ hx)) h'
    unfold wpList at h
    unfold wpListIn
    split
    · rename_i hw
      simp only [hw, if_true] at h
      rcases h with h | ⟨_, h⟩
      case inr => exact absurd h hL
      refine Oper.wpIn_mono (fun a' w' h' => hr a' w' h') ?_
      refine ⟨fun _ _ => trivial, ?_⟩
      rw [Oper.semAt_eq _ _ _ (hd o List.mem_cons_self)]
      unfold Oper.wp at h
      generalize (execOp a.eval o).run P w = r at h ⊢
      cases r with
      | ok x w' =>
        cases x with
        | value v => exact h
        | skip => exact h
        | defer d => exact h
        | enter f args => exact ⟨fun e => (by cases e), CallsIn.inRound l (callsIn_wide.2 h)⟩
        | row row args =>
          refine ⟨fun e => (by cases e), fun c cs _ => ?_⟩
          obtain ⟨v, w'', hr', hs⟩ := h c cs
          exact ⟨v, w'', hr', stepsIn_wide.2 hs⟩
        | _ => exact (h : False).elim
      | halt x w' =>
        cases x with
        | panic v => exact h
        | _ => exact (h : False).elim
    · rename_i hw
      simp only [hw] at h
      exact ⟨fun _ _ => trivial, hr _ _ h⟩
/-- A region that keeps its order, within a round. -/
theorem Sk.regionL_round {id l n : Nat} {lst : List Oper} {a : Act} {w : World} (hd : Sk.noDefer lst.toArray = true) (h : wpList P lst.toArray (Sk.Calm Q) lst a w) : (Code.region id lst.toArray false).wpIn (Fence.wide.inRound l) n P Q a w :=
  Code.wpIn_mono Sk.Calm.imp (wpIn_region_lit (Sk.list_round Sk.Calm.shut lst a w (fun o ho => by
    obtain ⟨i, hi, rfl⟩ := List.getElem_of_mem ho
    exact Sk.noDefer_spec hd (i := i) (by simp [hi])) h))
end
/-- An append of deeds, in a region that keeps its order. -/
theorem Sk.wpList_app {base : Nat} {w0 : World} {v : Value} {M : List Sk.E} (K : List Sk.E) (hone : ∀ x ∈ K, ∃ a n c, x.rv = .slice a n c) (hb : base ≤ w0.heap.size) (hown : Dk.Own 37 2 Sk.E.enc base w0 v M) (hl : M.length + K.length ≤ 4194304) {u : Value} (hu : Dk.Src Sk.E.enc w0 u K)
    {ops : Array Oper} {rest : List Oper} {o : Oper} {a : Act} {Q : Exit → Act → World → Prop} (s x : Operand) (hgd : Region.wanted o (yielded ops a.tmps) = true)
    (ho : o.op = .call { callee := .builtin .append, args := #[s, x], argTypes := #[23, 23] }) (hs : a.eval s = v) (hx : a.eval x = u)
    (h : ∀ v' w', Dk.Own 37 2 Sk.E.enc base w' v' (M ++ K) → Ty.Grew w0 w' v v' → wpList Tryd.prog ops Q rest (a.put o.dst v') w') :
    wpList Tryd.prog ops Q (o :: rest) a w0 := by
  refine wpList_step fun Kx hKx => ?_
  rw [if_pos hgd]
  obtain ⟨v', w', hr, h2, h3⟩ := Sk.step_deed K hone hb hown hl hu o.type
  unfold Oper.wp execOp
  simp only [ho, resolve, invoke, builtin, Sem.run_bind, Sem.run_pure, Result.andThen_ok, List.map_toArray, List.map_cons, List.map_nil, hs, hx, hr]
  exact hKx _ _ (h v' w' h2 h3)
/-- The end of a function whose result lies in a cell: nothing deferred. -/
theorem Sk.done_cell0 {n : Nat} {fn : Func} {p : Tmp} (h : fn.results = #[.cell p 4]) {tmps : Array Value} {W : World} {b : Nat} {x : Bool} {R : Ending → World → Prop} (hp : tmps.getD p undef = .pointer (some ⟨b, 0, none⟩)) (hc : W.heap[b]? = some (.cells #[.bool x] 4 (0, 0))) (hR : R (.returned (.bool x)) W) :
    bodyPostM Fence.wide n Tryd.prog fn R .ret { tmps := tmps, defers := [] } W := by
  have c1 : W.cell? ⟨b, 0, none⟩ = some (.bool x) := Sk.cell_blk hc
  refine ⟨.bool x, ?_, hR⟩
  rw [Sk.results_cell h, hp]
  go_simp
/-- .. two ranges over functions behind it. -/
theorem Sk.done_cell2 {n : Nat} {fn : Func} {p : Tmp} (h : fn.results = #[.cell p 4]) {tmps : Array Value} {W : World} {D E b : Nat} {x : Bool} {R : Ending → World → Prop} (hp : tmps.getD p undef = .pointer (some ⟨b, 0, none⟩)) (hDE : D ≠ E) (hK : W.heap[D]? = some (.deferred (some []))) (hK2 : W.heap[E]? = some (.deferred (some [])))
    (hc : W.heap[b]? = some (.cells #[.bool x] 4 (0, 0))) (hR : R (.returned (.bool x)) ((W.putObj D (.deferred none)).putObj E (.deferred none))) :
    bodyPostM Fence.wide n Tryd.prog fn R .ret { tmps := tmps, defers := [{ target := .collected D, args := #[] }, { target := .collected E, args := #[] }] } W := by
  have hne : b ≠ D := fun e => by rw [e, hK] at hc; cases hc
  have hne2 : b ≠ E := fun e => by rw [e, hK2] at hc; cases hc
  have hE : (W.putObj D (.deferred none)).heap[E]? = some (.deferred (some [])) := (World.putObj_heap_other (by first | exact hDE | exact hDE.symm)).trans hK2
  have c1 : ((W.putObj D (.deferred none)).putObj E (.deferred none)).cell? ⟨b, 0, none⟩ = some (.bool x) := Sk.cell_blk ((World.putObj_heap_other hne2).trans ((World.putObj_heap_other hne).trans hc))
  refine ⟨by simp, .inl ⟨_, _, rfl, run_takeDeferred hK, ?_⟩⟩
  refine ⟨by simp, .inl ⟨_, _, rfl, run_takeDeferred hE, ?_⟩⟩
  refine ⟨.bool x, ?_, hR⟩
  rw [Sk.results_cell h, hp]
  go_simp
/-- Two of the program's lists. -/
def Sk.Duo (w0 W : World) (p q : Nat) (M N : List Dd.D) : Prop :=
  ∃ S S', Sk.PD w0.heap.size S W p M ∧ Sk.PD w0.heap.size S' W q N ∧ (∀ b, S b → ¬ S' b) ∧ Below w0.heap.size w0 W
theorem Sk.Duo.below {w0 W : World} {p q : Nat} {M N : List Dd.D} (h : Sk.Duo w0 W p q M N) : Below w0.heap.size w0 W := by
  obtain ⟨_, _, _, _, _, h⟩ := h
  exact h
theorem Sk.Duo.later {w0 W W' : World} {p q : Nat} {M N : List Dd.D} (h : Sk.Duo w0 W p q M N) (g : Below W.heap.size W W') : Sk.Duo w0 W' p q M N := by
  obtain ⟨S, S', h1, h2, h3, h4⟩ := h
  exact ⟨S, S', h1.later g, h2.later g, h3, h4.trans (g.mono h4.size)⟩
theorem Sk.Duo.swap {w0 W : World} {p q : Nat} {M N : List Dd.D} (h : Sk.Duo w0 W p q M N) : Sk.Duo w0 W q p N M := by
  obtain ⟨S, S', h1, h2, h3, h4⟩ := h
  exact ⟨S', S, h2, h1, fun b hb hs => h3 b hs hb, h4⟩
theorem Sk.Duo.new {w0 W W' : World} {p q : Nat} {S : Nat → Prop} (h : Sk.PD w0.heap.size S W p []) (g : Below w0.heap.size w0 W) (h' : Sk.PD w0.heap.size (fun b => b = W.heap.size) W' W.heap.size []) (g' : Below W.heap.size W W') (hq : q = W.heap.size) : Sk.Duo w0 W' p q [] [] := by
  subst hq
  refine ⟨S, _, h.later g', h', fun b hb e => ?_, g.trans (g'.mono g.size)⟩
  have := h.lt b hb
  omega
theorem Sk.Duo.put {w0 W : World} {p q : Nat} {M N : List Dd.D} (h : Sk.Duo w0 W p q M N) (hT : Sk.Tab w0) {x : Sk.E} (hx : Sk.Got w0 x.rv x.row) (hl : M.length ≤ 100000) :
    Calls Tryd.prog 12 #[.pointer (some ⟨p, 0, none⟩), .agg #[.bool x.gone, x.rv]] W fun e w' => e = .returned (.bool (!x.row.isEmpty)) ∧ Sk.Duo w0 w' p q (Sk.pd M x.d) N ∧ Below w0.heap.size W w' := by
  obtain ⟨S, S', h1, h2, h3, h4⟩ := h
  refine (h1.step h4.size (hT.later h4 hT.lt) hT.lt (hx.later h4) hl).mono ?_
  rintro e w' ⟨he, ⟨S1, g1, g2⟩, g3, g4⟩
  refine ⟨he, ⟨S1, S', g1, h2.same g3.size (fun b hb => g3.block b (h2.lt b hb) fun h => h3 b h hb), fun b hb h => ?_, h4.trans g4⟩, g4⟩
  rcases g2 b hb with hb | hb
  · exact h3 b hb h
  · have := h2.lt b h
    omega
theorem Sk.Duo.len {w0 W : World} {p q : Nat} {M N : List Dd.D} (h : Sk.Duo w0 W p q M N) :
    Calls Tryd.prog 14 #[.pointer (some ⟨p, 0, none⟩)] W fun e w' => e = .returned (.int .i64 (M.length : Int)) ∧ w' = W := by
  obtain ⟨S, S', h1, _⟩ := h
  exact h1.len
theorem Sk.Duo.bytes {w0 W : World} {p q : Nat} {M N : List Dd.D} (h : Sk.Duo w0 W p q M N) :
    Calls Tryd.prog 15 #[.pointer (some ⟨p, 0, none⟩)] W fun e w' => e = .returned (.int .i64 (wrap64 (Sk.bytes M : Int))) ∧ w' = W := by
  obtain ⟨S, S', h1, _⟩ := h
  exact h1.bytes
theorem Sk.own_own {α : Type} {e : TypeId} {k : Nat} {enc : α → List Value} (B b : Nat) (v : Value) (L : List α) : OwnFrom B fun (_ : Unit) W => Dk.Own e k enc b W v L := fun _ W W' row hs hg hr => by
  refine hs.same fun k hk => hg.block k (hs.lt k hk) fun e => ?_
  obtain ⟨_, ob, ho, hc⟩ := hr k e.symm
  obtain ⟨cs, hcs⟩ := hs.typed k hk
  rw [hcs] at ho
  cases Option.some.inj ho
  cases hc
/-- Deeds that were gathered so far: their slice lies in a cell, and in a block of the rounds' own. -/
structure Sk.Acc (m B : Nat) (w9 : World) (na : Nat) (O : Nat → Prop) (l : List Dd.D) (W : World) : Prop where
  b : Below m w9 W
  acc : ∃ (v : Value) (L : List Sk.E), W.heap[na]? = some (.cells #[v] 23 (0, 0)) ∧ Dk.Own 37 2 Sk.E.enc B W v L ∧ L.map Sk.E.d = l ∧ (∀ b, v.ownBlock = some b → O b) ∧ ∀ y ∈ L, Sk.Rw m W y.rv y.row
theorem Sk.Acc.own {m B C : Nat} {w9 : World} {na : Nat} (hm : m ≤ C) (hm9 : m ≤ w9.heap.size) : OwnFrom C fun (s : List Dd.D × (Nat → Prop)) W => Sk.Acc m B w9 na s.2 s.1 W := by
  rintro s A' B' row ⟨h1, v, L, h2, h3, h4, h5, h6⟩ hg hr
  exact ⟨h1.grown hg (by have := h1.size; omega) fun k e => Nat.le_trans hm (hr k e).1, v, L, Sk.blk_kept h2 hg fun r e => (hr r e).2, Sk.own_own _ _ _ _ () _ _ row h3 hg hr, h4, h5, fun y hy => Sk.Rw.own _ _ _ _ () _ _ row (h6 y hy) hg hr⟩
theorem Sk.Acc.later {m B : Nat} {w9 W W' : World} {na : Nat} {O : Nat → Prop} {l : List Dd.D} (h : Sk.Acc m B w9 na O l W) (hm9 : m ≤ w9.heap.size) (g : Below W.heap.size W W') : Sk.Acc m B w9 na O l W' := by
  obtain ⟨h1, v, L, h2, h3, h4, h5, h6⟩ := h
  exact ⟨h1.trans (g.mono (Nat.le_trans hm9 h1.size)), v, L, (g.block _ (Array.getElem?_eq_some_iff.1 h2).1).trans h2, h3.kept g, h4, h5, fun y hy => (h6 y hy).kept g⟩
/-- A row's block is no block of another type. -/
theorem Sk.Rw.off {m : Nat} {W : World} {v : Value} {l : List Kn.V} (h : Sk.Rw m W v l) {k : Nat} (hk : v.ownBlock = some k) {cs : Array Value} {t : TypeId} {b : Nat} (hb : W.heap[b]? = some (.cells cs t (0, 0))) (ht : t ≠ 25) : k ≠ b := fun e => by
  obtain ⟨c, hc⟩ := h.typed k hk
  rw [e, hb] at hc
  simp only [Option.some.injEq, Obj.cells.injEq] at hc
  exact ht hc.2.1
/-- One more deed. -/
theorem Sk.Acc.step {m B : Nat} {w9 W w2 w3 : World} {na : Nat} {O : Nat → Prop} {l : List Dd.D} {v v' : Value} {L : List Sk.E} {x : Sk.E} (hB : B = w9.heap.size) (hm : m ≤ na) (hna : na < B) (h1 : Below m w9 W) (h2 : W.heap[na]? = some (.cells #[v] 23 (0, 0)))
    (h3 : Dk.Own 37 2 Sk.E.enc B W v L) (h4 : L.map Sk.E.d = l) (h5 : ∀ b, v.ownBlock = some b → O b) (h6 : ∀ y ∈ L, Sk.Rw m W y.rv y.row) (hx : Sk.Rw m W x.rv x.row)
    (ho : Dk.Own 37 2 Sk.E.enc B w2 v' (L ++ [x])) (hg : Ty.Grew W w2 v v') (hw3 : w3 = w2.setCell ⟨na, 0, none⟩ v') :
    ∃ O', Sk.Kp B O O' W w3 ∧ Below m W w3 ∧ Sk.Acc m B w9 na O' (l ++ [x.d]) w3 := by
  have hvB : ∀ b, v.ownBlock = some b → B ≤ b := fun b hb => (World.ownsRow.lt h3 b hb).1
  have hvB' : ∀ b, v'.ownBlock = some b → B ≤ b := fun b hb => (World.ownsRow.lt ho b hb).1
  have hnaW : na < W.heap.size := (Array.getElem?_eq_some_iff.1 h2).1
  have hna2 : w2.heap[na]? = some (.cells #[v] 23 (0, 0)) := (hg.by_.block na hnaW fun e => by have := hvB na e.symm; omega).trans h2
  have hs3 : w3.heap.size = w2.heap.size := by rw [hw3]; simp [World.setCell]
  have h23 : ∀ b, b ≠ na → w3.heap[b]? = w2.heap[b]? := fun b hb => by rw [hw3]; exact Below.heap_setCell _ _ _ _ (by first | exact hb | exact hb.symm)
  have hW3 : ∀ b, b < W.heap.size → v.ownBlock ≠ some b → b ≠ na → w3.heap[b]? = W.heap[b]? := fun b hb hv hn => (h23 b hn).trans (hg.by_.block b hb fun e => hv (by first | exact e | exact e.symm))
  have hrow : ∀ (u : Value) (r : List Kn.V), Sk.Rw m W u r → Sk.Rw m w3 u r := fun u r hr => hr.same fun k hk => hW3 k (hr.lt k hk) (fun e => by
    obtain ⟨cs, hcs⟩ := h3.typed k e
    exact hr.off hk hcs (by decide) rfl) (hr.off hk h2 (by decide))
  have hb3 : Below m W w3 := by
    rw [hw3]
    exact (hg.below (Nat.le_trans hm (Nat.le_of_lt hnaW)) fun k hk => by have := hvB k hk; omega).setCell (p := ⟨na, 0, none⟩) hm _
  refine ⟨fun b => O b ∨ v'.ownBlock = some b, ⟨by have := hg.by_.size; omega, fun b hb => ?_, fun b hb hbW hO => ?_⟩, hb3, ⟨h1.trans hb3, v', L ++ [x], ?_, ?_, ?_, fun b hb => .inr hb, fun y hy => ?_⟩⟩
  · rcases hb with hb | hb
    · exact .inl hb
    · rcases hg.own with e | ⟨k, e, hk⟩
      · exact .inl (h5 b (e ▸ hb))
      · rw [e] at hb
        cases Option.some.inj hb
        exact .inr hk
  · exact hW3 b hbW (fun e => hO (h5 b e)) (by omega)
  · rw [hw3]; exact Sk.one_set _ hna2
  · exact ho.same fun b hb => h23 b (by have := hvB' b hb; omega)
  · rw [List.map_append, h4]; rfl
  · rcases List.mem_append.1 hy with hy | hy
    · exact hrow _ _ (h6 y hy)
    · rw [List.mem_singleton] at hy
      subst hy
      exact hrow _ _ hx
/-- One of those that were gathered. -/
theorem Sk.Acc.item {m B : Nat} {W W' : World} {v : Value} {L : List Sk.E} (h3 : Dk.Own 37 2 Sk.E.enc B W v L) (h6 : ∀ y ∈ L, Sk.Rw m W y.rv y.row) (g : Below W.heap.size W W') {i : Nat} {y : Sk.E} (hy : L[i]? = some y) :
    ∃ b c ra rc, v = .slice (some ⟨b, 0, none⟩) L.length c ∧ W'.cell? ⟨b, i * 2, none⟩ = some (.bool y.gone) ∧ W'.cell? ⟨b, i * 2 + 1, none⟩ = some (.slice ra y.row.length rc) ∧ Kn.Vals W' (.slice ra y.row.length rc) y.row := by
  rcases h3.form with ⟨_, e⟩ | ⟨b, c, rfl, _⟩
  · rw [e] at hy; cases hy
  · have hr : Sk.Rw m W' y.rv y.row := Dk.Own.kept (h6 y (List.mem_of_getElem? hy)) g
    obtain ⟨ra, rc, hrv⟩ : ∃ ra rc, y.rv = .slice ra y.row.length rc := by
      rcases hr.form with ⟨e, e0⟩ | ⟨q, cq, e, _⟩
      · exact ⟨none, 0, by rw [e, show y.row = [] from e0]; rfl⟩
      · exact ⟨_, cq, e⟩
    have h := h3.kept g
    have hv := hr.vals
    have e1 := h.cell Sk.enc_len (g := b) rfl hy (j := 1) (by decide)
    rw [hrv] at hv
    refine ⟨b, c, ra, rc, rfl, h.cell Sk.enc_len (g := b) rfl hy (j := 0) (by decide), ?_, hv⟩
    rw [e1, ← hrv]; rfl
end Go.Proofs.YtfjhffldhpcdmaaDoor
