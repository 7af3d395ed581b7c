/-
  
  
  
  
-/
import Derived.Test.YtbelkhkllneifaaGreatDoorRows
import Derived.OrdersHeld
import Derived.Deep.RegionHeld3
import Derived.OrdersIn
import Derived.RangeFuncCalls
import Derived.TacticsIn
import Derived.Test.YtbelkhkllneifaaGreatDoorWCAL
import Derived.RangeFuncNested
import Derived.RangeFuncBound
import Derived.RangeFuncLeaves
import Derived.Lib.QuietBelow
import Derived.Test.YtbelkhkllneifaaGreatDoorWCAZ
import Derived.Shelf.Abstract
import Derived.Shelf.RegionOpen
import Derived.OwnWalkIn
import Derived.TacticsInMore
import Derived.LoopNIn
import Derived.LoopIn
namespace Go.Proofs.YtbelkhkllneifaaGreatDoor
open Go
section
variable {P : Program} {ops : Array Oper} {Q : Exit → Act → World → Prop} {md : Region.Mode} {S S' : World → Prop}
def Sk.Calm (Q : Exit → Act → World → Prop) : Exit → Act → World → Prop
 | .panic _, _, _ => False
 | .outgrown, _, _ => False
 | e, a, w => Q e a w
theorem Sk.Calm.imp {Q : Exit → Act → World → Prop} : ∀ (e : Exit) (a : Act) (w : World), Sk.Calm Q e a w → Q e a w := fun e a w h => by
 cases e <;> first | exact h | exact (h : False).elim
theorem Sk.Calm.normal {Q : Exit → Act → World → Prop} {a : Act} {w : World} (h : Q .normal a w) : Sk.Calm Q .normal a w := h
theorem Sk.Calm.shut {Q : Exit → Act → World → Prop} : ¬ LetsOut (Sk.Calm Q) := fun ⟨_, _, h⟩ => h
def Sk.noDefer (ops : Array Oper) : Bool := ops.all fun o => match o.op with | .defer _ => false | _ => true
theorem Sk.noDefer_spec (h : Sk.noDefer ops = true) {i : Nat} {o : Oper} (hi : ops[i]? = some o) : ∀ c, o.op ≠ .defer c := fun c e => by
 obtain ⟨hl, rfl⟩ := Array.getElem?_eq_some_iff.1 hi
 unfold Sk.noDefer at h
 have := Array.all_eq_true.1 h i hl
 rw [e] at this
 cases this
theorem Sk.op_round {l n i : Nat} {K : Act → World → Prop} {a : Act} {w : World} (hL : ¬ LetsOut Q) (hd : Sk.noDefer ops = true) (h : wpOp P ops Q i K a w) : wpOpIn (Fence.wide.inRound l) n P ops Q i K a w := by
 unfold wpOp at h
 unfold wpOpIn
 cases ho : ops[i]? with
 | none => simpa [ho] using h
 | some o =>
   simp only [ho] at h ⊢
   split
   ·rename_i hw
    simp only [hw, if_true] at h
    rcases h with h | ⟨_, h⟩
    case inr => exact absurd h hL
    refine ⟨fun _ _ => trivial, ?_⟩
    rw [Oper.semAt_eq _ _ _ (Sk.noDefer_spec hd ho)]
    unfold Oper.wp at h
    generalize (execOp a.eval o).run P w = r at h ⊢
    cases r with
    | ok x w' =>
      cases x with
      | value v => exact h
      | skip => exact h
      | defer d => exact h
      | enter f args =>
        refine ⟨fun e => (by cases e), CallsIn.inRound l (callsIn_wide.2 ?_)⟩
        exact h
      | row row args =>
        refine ⟨fun e => (by cases e), fun c cs _ => ?_⟩
        obtain ⟨v, w'', hr, hs⟩ := h c cs
        exact ⟨v, w'', hr, stepsIn_wide.2 hs⟩
      | _ => exact (h : False).elim
    | halt x w' =>
      cases x with
      | panic v => exact h
      | _ => exact (h : False).elim
   ·rename_i hw
    simp only [hw] at h
    exact ⟨fun _ _ => trivial, h⟩
end
end Go.Proofs.YtbelkhkllneifaaGreatDoor

namespace Go.Proofs.YtbelkhkllneifaaGreatDoor
open Go Go.RowKit
structure Rn.Kd (D : Nat → Prop) (W W' : World) : Prop where
 os : W'.os = W.os
 tape : W'.tape = W.tape
 output : W'.output = W.output
 size : W.heap.size ≤ W'.heap.size
 same : ∀ b, D b → b < W.heap.size → W'.heap[b]? = W.heap[b]?
theorem Rn.Kd.trans {D : Nat → Prop} {X Y Z : World} (h : Rn.Kd D X Y) (g : Rn.Kd D Y Z) : Rn.Kd D X Z :=
 ⟨g.os.trans h.os, g.tape.trans h.tape, g.output.trans h.output, Nat.le_trans h.size g.size, fun b hb hx => (g.same b hb (Nat.lt_of_lt_of_le hx h.size)).trans (h.same b hb hx)⟩
theorem Rn.Kd.below {D : Nat → Prop} {W W' : World} (h : Below W.heap.size W W') : Rn.Kd D W W' := ⟨h.os, h.tape, h.output, h.size, fun b _ hb => h.block b hb⟩
theorem Rn.Kd.set {D : Nat → Prop} (W : World) {a : Addr} (ha : ¬ D a.block) (v : Value) : Rn.Kd D W (W.setCell a v) :=
 ⟨rfl, rfl, rfl, by simp [World.setCell], fun b hb _ => Below.heap_setCell _ _ _ _ fun e => by subst e; exact ha hb⟩
theorem Rn.Kd.put {D : Nat → Prop} (W : World) {l : Nat} (hl : ¬ D l) (o : Obj) : Rn.Kd D W (W.putObj l o) :=
 ⟨rfl, rfl, rfl, by simp, fun b hb _ => World.putObj_heap_other fun e => by subst e; exact hl hb⟩
theorem Rn.Kd.grown {D : Nat → Prop} {W W' : World} {r : Option Nat} (h : W.grownBy W' r) (hr : ∀ b, r = some b → ¬ D b) : Rn.Kd D W W' :=
 ⟨h.os, h.tape, h.output, h.size, fun b hb hx => h.block b hx fun e => hr b e.symm hb⟩
theorem Rn.Kd.low {D : Nat → Prop} {W W' : World} {m : Nat} (h : Rn.Kd D W W') (hD : ∀ b, b < m → D b) (hm : m ≤ W.heap.size) : Below m W W' :=
 ⟨h.os, h.tape, h.output, h.size, fun b hb => h.same b (hD b hb) (Nat.lt_of_lt_of_le hb hm)⟩
theorem Rn.own_below {β : Type} {B : Nat} {J : β → World → Prop} (hJ : OwnFrom B J) {s : β} {W W' : World} (h : J s W) (g : Below W.heap.size W W') : J s W' :=
 hJ s W W' none h ⟨g.os, g.tape, g.output, g.size, fun k hk _ => g.block k hk⟩ fun r e => by cases e
theorem Rn.kf_below {B : Nat} {W W' : World} (h : Below W.heap.size W W') : KeepsFrom B W W' :=
 ⟨h.size, fun k _ _ hk _ => (h.block k (Array.getElem?_eq_some_iff.1 hk).1).trans hk⟩
def Rn.Seq {α : Type} (P : Program) (gf : FuncId) (lb : Array Value) (En : α → Array Value → World → Prop) (D : Nat → Prop) (xs : List α) (w : World) : Prop :=
 ∀ (l : Nat) (J Jx : List α → World → Prop) (W : World), Below w.heap.size w W → OwnFrom W.heap.size J → OwnFrom W.heap.size Jx →
   (∀ pre x args W1, J pre W1 → En x args W1 → Rn.Kd D W W1 → pre ++ [x] <+: xs → YieldAt Fence.wide 7 P l args W1 fun e W' =>
    (e = .returned (.bool true) ∧ J (pre ++ [x]) W' ∧ Rn.Kd D W1 W') ∨ (e = .returned (.bool false) ∧ Jx (pre ++ [x]) W')) →
   J [] W →
   CallsIn Fence.wide 8 P gf (#[.func (.yield l) #[] #[]] ++ lb) W fun e W' => (∃ v, e = .returned v) ∧ (J xs W' ∨ ∃ pre, pre <+: xs ∧ pre ≠ [] ∧ Jx pre W')
def Rn.left {α : Type} (B : Nat) (D : Nat → Prop) (I : List α → World → Prop) (Ix : Code → List α → World → Prop) (xs : List α) (W : World) : Exit → Act → World → Prop
 | .normal, _, W' => KeepsFrom B W W' ∧ Rn.Kd D W W' ∧ I xs W'
 | .ret, _, W' => KeepsFrom B W W' ∧ Ix .ret xs W'
 | .exit id, _, W' => KeepsFrom B W W' ∧ Ix (.exit id) xs W'
 | .goto t, _, W' => KeepsFrom B W W' ∧ Ix (.goto t) xs W'
 | .panic _, _, _ => False
 | .outgrown, _, _ => False
theorem Rn.own_put {B : Nat} {I : World → Prop} (h : OwnFrom B fun (_ : Unit) W => I W) {W : World} {l : Nat} {o : Obj} (o' : Obj) (hs : I W) (hB : B ≤ l) (hl : W.heap[l]? = some o) (ho : o.isCells = false) : I (W.putObj l o') :=
 OwnFrom.putObj (I := fun (_ : Unit) W => I W) (s := ()) h o' hs hB hl ho
section
variable {P : Program}
theorem Rn.range_w {α : Type} {g : Operand} {ps : Array Tmp} {assign body : Code} {Q : Exit → Act → World → Prop} {a : Act} {w : World} {gf : Nat} {lb : Array Value}
 (hg : a.eval g = .func (.func gf) #[] lb) (eg : ∀ args w, (callFunc gf args).run P w = .ok (.enter gf args) w)
 {En : α → Array Value → World → Prop} {D : Nat → Prop} {xs : List α} {w0 : World} (hseq : Rn.Seq P gf lb En D xs w0) (hb0 : Below w0.heap.size w0 w) (hD : ∀ b, D b → b < w.heap.size)
 (hps : ∀ x args W, En x args W → args.size = ps.size)
 (I : List α → World → Prop) (Ix : Code → List α → World → Prop) (hI : OwnFrom w.heap.size I) (hIx : ∀ c, OwnFrom w.heap.size (Ix c)) (h0 : I [] w)
 (Ax : List α → α → Act → World → Prop) (hAx : ∀ pre x a', OwnFrom w.heap.size fun (_ : Unit) W => Ax pre x a' W)
 (hassign : ∀ l pre x args W, I pre W → En x args W → pre ++ [x] <+: xs → Rn.Kd D w W →
  assign.wpIn (Fence.wide.inRound l) 7 P (Exit.then (fun a' W' => Below W.heap.size W W' ∧ Ax pre x a' W') (fun _ _ _ => False)) { tmps := (ps.zip args).foldl (fun t (p, v) => t.setIfInBounds p v) a.tmps, defers := [] } W)
 (hbody : ∀ l pre x a' W, w.heap.size ≤ l → (∃ r, W.heap[l]? = some (.loop r)) → Ax pre x a' W → pre ++ [x] <+: xs → Rn.Kd D w W → body.wpIn (Fence.wide.inRound l) 7 P (Rn.left w.heap.size D I Ix (pre ++ [x]) W) a' W)
 (hdone : ∀ N W, w.heap.size ≤ N → I xs W → W.heap[N]? = some (.deferred (some [])) → Q .normal { a with defers := { target := .collected N, args := #[] } :: a.defers } W)
 (hstop : ∀ N c pre W, w.heap.size ≤ N → pre <+: xs → pre ≠ [] → Ix c pre W → W.heap[N]? = some (.deferred (some [])) → c.wpIn Fence.wide 9 P Q { a with defers := { target := .collected N, args := #[] } :: a.defers } W) :
 (Code.rangeFunc g ps assign body).wpIn Fence.wide 9 P Q a w := by
 refine wpIn_rangeFunc fun fn hfn => ?_
 let mk : LoopState → Option Code → Loop := fun st pe => { state := st, pending := pe, fn, tmps := a.tmps, params := ps, assign, body, defers := w.heap.size }
 obtain ⟨W1, hW1⟩ : ∃ W1, W1 = (w.alloc (.deferred (some []))).alloc (.loop (mk .ready none)) := ⟨_, rfl⟩
 have hsz : W1.heap.size = w.heap.size + 2 := by rw [hW1]; simp
 have hlo : W1.heap[w.heap.size + 1]? = some (.loop (mk .ready none)) := by
  have := World.alloc_heap_new (w.alloc (.deferred (some []))) (.loop (mk .ready none))
  rw [World.size_alloc] at this
  rw [hW1]
  exact this
 have hde : W1.heap[w.heap.size]? = some (.deferred (some [])) := by
  rw [hW1]
  exact (Below.heap_alloc _ _ _ (by simp)).trans (World.alloc_heap_new w _)
 have hI1 : I [] W1 := by rw [hW1]; exact hI.alloc _ (hI.alloc _ h0)
 have hb1 : Below w.heap.size w W1 := by rw [hW1]; exact ((Below.refl _ w).alloc (Nat.le_refl _) _).alloc (by simp) _
 have far : ∀ {A B : World} {row : Option Nat} {k : Nat}, A.grownBy B row → (∀ r, row = some r → W1.heap.size ≤ r ∧ ∃ o : Obj, A.heap[r]? = some o ∧ o.isCells = false) → k < A.heap.size → k < w.heap.size + 2 → B.heap[k]? = A.heap[k]? := fun hg hr hk h2 =>
  hg.block _ hk fun e => by have := (hr _ e.symm).1; omega
 have nD : ∀ k, w.heap.size ≤ k → ¬ D k := fun k hk hd => by have := hD k hd; omega
 refine ⟨w.heap.size + 1, [{ target := .collected w.heap.size, args := #[] }], W1, { target := .fn (.func gf) lb, args := #[.func (.yield (w.heap.size + 1)) #[] #[]] }, W1, gf,
  #[.func (.yield (w.heap.size + 1)) #[] #[]] ++ lb, W1, by rw [hW1]; exact run_enterLoop_outer _ _ _ _ _, ?_, ?_, ?_, fun _ => by omega, ?_⟩
 ·simp only [resolve, hg]
  simp [go_sem]
 ·intro f' hf'
  exact trivial
 ·simp [invoke, go_sem, eg]
 refine (hseq (w.heap.size + 1) (fun s W => I s W ∧ W.heap[w.heap.size + 1]? = some (.loop (mk .ready none)) ∧ W.heap[w.heap.size]? = some (.deferred (some [])))
  (fun s W => ∃ c, Ix c s W ∧ W.heap[w.heap.size + 1]? = some (.loop (mk .done (some c))) ∧ W.heap[w.heap.size]? = some (.deferred (some []))) W1 (hb0.trans (hb1.mono hb0.size)) ?_ ?_ ?_ ⟨hI1, hlo, hde⟩).mono ?_
 ·rintro s A B row ⟨h1, h2, h3⟩ hgr hr
  have hA := (Array.getElem?_eq_some_iff.1 h2).1
  exact ⟨hI s A B row h1 hgr fun r e => ⟨by have := (hr r e).1; omega, (hr r e).2⟩, (far hgr hr hA (by omega)).trans h2, (far hgr hr (by omega) (by omega)).trans h3⟩
 ·rintro s A B row ⟨c, h1, h2, h3⟩ hgr hr
  have hA := (Array.getElem?_eq_some_iff.1 h2).1
  exact ⟨c, hIx c s A B row h1 hgr fun r e => ⟨by have := (hr r e).1; omega, (hr r e).2⟩, (far hgr hr hA (by omega)).trans h2, (far hgr hr (by omega) (by omega)).trans h3⟩
 ·
  rintro pre x args W ⟨h1, h2, h3⟩ he hbW hpx
  refine ⟨fn, _, assign, body, run_yield (P := P) h2 (hps x args W he), roundIn_of_wpIn hfn (wpIn_mono (hassign (w.heap.size + 1) pre x args W h1 he hpx ((Rn.Kd.below hb1).trans hbW)) ?_)⟩
  have hlW := (Array.getElem?_eq_some_iff.1 h2).1
  rintro e a2 W2 hp
  cases e with
  | normal =>
    obtain ⟨g2, x2⟩ := hp
    have l2 := (g2.block _ hlW).trans h2
    have d2 := (g2.block _ (by omega)).trans h3
    have hlt := (Array.getElem?_eq_some_iff.1 l2).1
    refine ⟨_, run_beginRound l2 rfl, ?_⟩
    have l3 : (W2.putObj (w.heap.size + 1) (.loop { mk .ready none with state := .busy })).heap[w.heap.size + 1]? = some (.loop { mk .ready none with state := .busy }) := World.putObj_heap_same hlt
    have d3 : (W2.putObj (w.heap.size + 1) (.loop { mk .ready none with state := .busy })).heap[w.heap.size]? = some (.deferred (some [])) := (World.putObj_heap_other (by omega)).trans d2
    have b3 : Rn.Kd D W (W2.putObj (w.heap.size + 1) (.loop { mk .ready none with state := .busy })) := (Rn.Kd.below g2).trans (Rn.Kd.put _ (nD _ (by omega)) _)
    refine wpIn_mono (hbody (w.heap.size + 1) pre x a2 _ (by omega) ⟨_, l3⟩ (Rn.own_put (hAx pre x a2) _ x2 (by omega) l2 rfl) hpx (((Rn.Kd.below hb1).trans hbW).trans b3)) ?_
    rintro e a4 W4 hp4
    have out : ∀ (jump : Option Code), KeepsFrom w.heap.size (W2.putObj (w.heap.size + 1) (.loop { mk .ready none with state := .busy })) W4 →
     (Instr.endRound (w.heap.size + 1) jump).run P W4 = .ok (.bool jump.isNone) (W4.putObj (w.heap.size + 1) (.loop (mk (if jump.isNone then .ready else .done) jump))) ∧
     (W4.putObj (w.heap.size + 1) (.loop (mk (if jump.isNone then .ready else .done) jump))).heap[w.heap.size + 1]? = some (.loop (mk (if jump.isNone then .ready else .done) jump)) ∧
     (W4.putObj (w.heap.size + 1) (.loop (mk (if jump.isNone then .ready else .done) jump))).heap[w.heap.size]? = some (.deferred (some [])) ∧
     W4.heap[w.heap.size + 1]? = some (.loop { mk .ready none with state := .busy }) := fun jump k4 => by
     have l4 := k4.same _ _ (by omega) l3 rfl
     have d4 := k4.same _ _ (Nat.le_refl _) d3 rfl
     exact ⟨run_endRound (P := P) jump l4, World.putObj_heap_same (Array.getElem?_eq_some_iff.1 l4).1, (World.putObj_heap_other (by omega)).trans d4, l4⟩
    cases e with
    | normal =>
      obtain ⟨k4, b4, i4⟩ := hp4
      obtain ⟨r5, l5, d5, l4⟩ := out none k4
      exact ⟨_, _, r5, .inl ⟨rfl, ⟨hI.putObj _ i4 (by omega) l4 rfl, l5, d5⟩, (b3.trans b4).trans (Rn.Kd.put _ (nD _ (by omega)) _)⟩⟩
    | ret =>
      obtain ⟨k4, i4⟩ := hp4
      obtain ⟨r5, l5, d5, l4⟩ := out (some .ret) k4
      exact ⟨_, _, r5, .inr ⟨rfl, .ret, (hIx _).putObj _ i4 (by omega) l4 rfl, l5, d5⟩⟩
    | exit id =>
      obtain ⟨k4, i4⟩ := hp4
      obtain ⟨r5, l5, d5, l4⟩ := out (some (.exit id)) k4
      exact ⟨_, _, r5, .inr ⟨rfl, .exit id, (hIx _).putObj _ i4 (by omega) l4 rfl, l5, d5⟩⟩
    | goto t =>
      obtain ⟨k4, i4⟩ := hp4
      obtain ⟨r5, l5, d5, l4⟩ := out (some (.goto t)) k4
      exact ⟨_, _, r5, .inr ⟨rfl, .goto t, (hIx _).putObj _ i4 (by omega) l4 rfl, l5, d5⟩⟩
    | panic ch => exact hp4.elim
    | outgrown => exact hp4.elim
  | exit id => exact hp.elim
  | goto t => exact hp.elim
  | ret => exact hp.elim
  | panic ch => exact hp.elim
  | outgrown => exact hp.elim
 ·
  rintro e W2 ⟨⟨v, rfl⟩, ⟨i2, l2, d2⟩ | ⟨pre, hpre, hne, c, i2, l2, d2⟩⟩
  ·exact ⟨none, _, run_endLoop (P := P) l2 (fun e => by cases e), hdone _ _ (Nat.le_refl _) (hI.putObj _ i2 (by omega) l2 rfl) ((World.putObj_heap_other (by omega)).trans d2)⟩
  ·exact ⟨some c, _, run_endLoop (P := P) l2 (fun e => by cases e), hstop _ c pre _ (Nat.le_refl _) hpre hne ((hIx c).putObj _ i2 (by omega) l2 rfl) ((World.putObj_heap_other (by omega)).trans d2)⟩
variable {ops : Array Oper} {Q : Exit → Act → World → Prop} {md : Region.Mode}
theorem Rn.any_round {l n : Nat} (hL : ¬ LetsOut Q) (hd : Sk.noDefer ops = true) : ∀ (fuel : Nat) (listed : Array Bool) (a : Act) (w : World), wpAny P md ops Q fuel listed a w → wpAnyIn (Fence.wide.inRound l) n P md ops Q fuel listed a w
 | 0, _, _, _, h => h
 | fuel + 1, _, _, _, h => ⟨h.1, fun i hi => wpOpIn_mono (fun _ _ h' => Rn.any_round hL hd fuel _ _ _ h') (Sk.op_round hL hd (h.2 i hi))⟩
theorem Rn.quiet_round {id l n : Nat} {a : Act} {w : World} {lst : List Oper} (hm : P.follows .mixedOrders = true) (hd : Sk.noDefer lst.toArray = true) (hB : Region.lexB .any lst.toArray = true)
 (h : wpQuiet P lst.toArray (fun w' => ∃ p : Regrown, w' = Sort.grow (redrawn w p.d) p.os) (fun a' => ∀ w', (∃ p : Regrown, w' = Sort.grow (redrawn w p.d) p.os) → Q .normal a' w') lst a) : (Code.region id lst.toArray true).wpIn (Fence.wide.inRound l) n P Q a w := by
 simp only [Region.lexB, Bool.and_eq_true] at hB
 refine Code.wpIn_mono Sk.Calm.imp (wpIn_region_any hm (Rn.any_round Sk.Calm.shut hd _ _ _ _ (wpAny_of_quiet (C := fun w' => ∃ p : Regrown, w' = Sort.grow (redrawn w p.d) p.os) (Q := fun a' => ∀ w', (∃ p : Regrown, w' = Sort.grow (redrawn w p.d) p.os) → Q .normal a' w') (fun _ w' hw' h => Sk.Calm.normal (h w' hw')) _ _ _ _ ⟨⟨w.drawn + 1, #[]⟩, by rw [Sort.grow_empty]; rfl⟩ ?_)))
 have := wpAnyQ_lex (C := fun w' => ∃ p : Regrown, w' = Sort.grow (redrawn w p.d) p.os) (md := .any) hB.1 lst.toArray.toList 0 (Array.replicate lst.toArray.size false) a (by simp) (by simpa using hB.2) h
 simpa using this
theorem Rn.list_round {l n : Nat} (hL : ¬ LetsOut Q) : ∀ (lst : List Oper) (a : Act) (w : World), (∀ o ∈ lst, ∀ c, o.op ≠ .defer c) → wpList P ops Q lst a w → wpListIn (Fence.wide.inRound l) n P ops Q lst a w
 | [], _, _, _, h => h
 | o :: rest, a, w, hd, h => by
   have hr : ∀ a' w', wpList P ops Q rest a' w' → wpListIn (Fence.wide.inRound l) n P ops Q rest a' w' := fun a' w' h' => Rn.list_round hL rest a' w' (fun x hx => hd x (List.mem_cons_of_mem _ hx)) h'
   unfold wpList at h
   unfold wpListIn
   split
   ·rename_i hw
    simp only [hw, if_true] at h
    rcases h with h | ⟨_, h⟩
    case inr => exact absurd h hL
    refine Oper.wpIn_mono (fun a' w' h' => hr a' w' h') ?_
    refine ⟨fun _ _ => trivial, ?_⟩
    rw [Oper.semAt_eq _ _ _ (hd o List.mem_cons_self)]
    unfold Oper.wp at h
    generalize (execOp a.eval o).run P w = r at h ⊢
    cases r with
    | ok x w' =>
      cases x with
      | value v => exact h
      | skip => exact h
      | defer d => exact h
      | enter f args => exact ⟨fun e => (by cases e), CallsIn.inRound l (callsIn_wide.2 h)⟩
      | row row args =>
        refine ⟨fun e => (by cases e), fun c cs _ => ?_⟩
        obtain ⟨v, w'', hr', hs⟩ := h c cs
        exact ⟨v, w'', hr', stepsIn_wide.2 hs⟩
      | _ => exact (h : False).elim
    | halt x w' =>
      cases x with
      | panic v => exact h
      | _ => exact (h : False).elim
   ·rename_i hw
    simp only [hw] at h
    exact ⟨fun _ _ => trivial, hr _ _ h⟩
theorem Rn.list_region {id l n : Nat} {lst : List Oper} {a : Act} {w : World} (hd : Sk.noDefer lst.toArray = true) (h : wpList P lst.toArray (Sk.Calm Q) lst a w) : (Code.region id lst.toArray false).wpIn (Fence.wide.inRound l) n P Q a w :=
 Code.wpIn_mono Sk.Calm.imp (wpIn_region_lit (Rn.list_round Sk.Calm.shut lst a w (fun o ho => by
  obtain ⟨i, hi, rfl⟩ := List.getElem_of_mem ho
  exact Sk.noDefer_spec hd (i := i) (by simp [hi])) h))
theorem Rn.own_own {α : Type} {e : TypeId} {k : Nat} {enc : α → List Value} (B b : Nat) (v : Value) (L : List α) : OwnFrom B fun (_ : Unit) W => Dk.Own e k enc b W v L := fun _ W W' row hs hg hr => by
 refine hs.same fun k hk => hg.block k (hs.lt k hk) fun e => ?_
 obtain ⟨_, ob, ho, hc⟩ := hr k e.symm
 obtain ⟨cs, hcs⟩ := hs.typed k hk
 rw [hcs] at ho
 cases Option.some.inj ho
 cases hc
theorem Rn.Kd.grew {B : Nat} {D : Nat → Prop} {w W W' : World} {row : Option Nat} (h : Rn.Kd D w W) (hD : ∀ b, D b → b < B) (hg : W.grownBy W' row) (hr : ∀ r, row = some r → B ≤ r ∧ ∃ o : Obj, W.heap[r]? = some o ∧ o.isCells = false) : Rn.Kd D w W' :=
 h.trans (Rn.Kd.grown hg fun b e hb => by have := (hr b e).1; have := hD b hb; omega)
theorem Rn.blk_own {W W' : World} {row : Option Nat} {b : Nat} {cs : Array Value} {t : TypeId} {f : Nat × Nat} {B : Nat} (h : W.heap[b]? = some (.cells cs t f)) (hg : W.grownBy W' row) (hr : ∀ r, row = some r → B ≤ r ∧ ∃ o : Obj, W.heap[r]? = some o ∧ o.isCells = false) : W'.heap[b]? = some (.cells cs t f) :=
 (hg.block b (Array.getElem?_eq_some_iff.1 h).1 fun e => by
  obtain ⟨_, o, ho, hc⟩ := hr b e.symm
  rw [h] at ho
  cases Option.some.inj ho
  cases hc).trans h
theorem Rn.kf_grew {α : Type} {e : TypeId} {k : Nat} {enc : α → List Value} {B C : Nat} {W W' : World} {v v' : Value} {M : List α} (hO : Dk.Own e k enc B W v M) (g : Ty.Grew W W' v v') : KeepsFrom C W W' :=
 (KeepsOthers.of_grownBy g.by_ fun j o hj ho => by
  obtain ⟨cs, hc⟩ := hO.typed j (by first | exact hj | exact hj.symm)
  rw [ho] at hc
  cases Option.some.inj hc
  rfl).from C
end
end Go.Proofs.YtbelkhkllneifaaGreatDoor

namespace Go.Proofs.YtbelkhkllneifaaGreatDoor
open Go Go.RowKit Go.Shelf
attribute [local go_sem] Oper.semAt_some
theorem Rn.ds_cut {w : World} {b o c : Nat} {L : List Dd.D} (h : Bk.Ds w (.slice (some ⟨b, o, none⟩) L.length c) L) {i j : Nat} (hij : i < j) (hj : j ≤ L.length) : Bk.Ds w (.slice (some ⟨b, o + i * 2, none⟩) (j - i) (c - i)) ((L.take j).drop i) := by
 obtain ⟨a', c', e, h1, h2, h⟩ := h
 simp only [Value.slice.injEq] at e
 obtain ⟨rfl, _, rfl⟩ := e
 have hl : ((L.take j).drop i).length = j - i := by rw [List.length_drop, List.length_take]; omega
 rcases h with h | ⟨b', o', e, hb, h⟩
 ·rw [h] at hj; simp at hj; omega
 ·cases e
  refine ⟨_, c - i, by rw [hl], by omega, by omega, .inr ⟨b, o + i * 2, rfl, hb, fun k x hx => ?_⟩⟩
  rw [List.getElem?_drop, List.getElem?_take] at hx
  split at hx
  ·obtain ⟨u, c0, c1, hu⟩ := h (i + k) x hx
   exact ⟨u, by rw [← c0]; congr 2; omega, by rw [← c1]; congr 2; omega, hu⟩
  ·cases hx
def Rn.WithinD (wo w : World) (L : List Dd.D) (r : Kn.R) (e : Ending) (w' : World) : Prop := ∃ a n c, e = .returned (.slice a n c) ∧ Bk.Ds wo (.slice a n c) (Rn.in_ L r) ∧ Below w.heap.size w w'
theorem Rn.ds_nil (w : World) : Bk.Ds w (.slice none 0 0) [] := ⟨none, 0, rfl, Nat.le_refl _, by decide, .inl rfl⟩
set_option maxHeartbeats 4000000 in
set_option maxRecDepth 100000 in
theorem Rn.within_c {wo w : World} {p : Nat} {s : List Kn.C} {L : List Dd.D} (h0 : Rn.P wo p s L) (hbo : Below wo.heap.size wo w) (hg : Rn.Gd s L) (r : Kn.R) :
 Calls Tryz.prog 48 #[.pointer (some ⟨p, 0, none⟩), r.val] w (Rn.WithinD wo w L r) := by
 have h := h0.later hbo
 have HG := Lib.hid hg
 have CL := Lib.hid fun (wz : World) (g : Below w.heap.size w wz) => Rn.len_c (h.later g)
 have CS := Lib.hid fun (k : Kn.V) (wz : World) (g : Below w.heap.size w wz) => Rn.seek_c (h.later g) hg k
 obtain ⟨w1, hw1⟩ : ∃ w1, w1 = w.alloc (.cells #[.bool r.from_, .bool r.til, .bool r.lo.null, .int .i64 r.lo.n, .string r.lo.s, .bool r.hi.null, .int .i64 r.hi.n, .string r.hi.s] 43) := ⟨_, rfl⟩
 have HB1 : Hid (Below w.heap.size w w1) := Lib.hid (by rw [hw1]; exact (Below.refl _ w).alloc (Nat.le_refl _) _)
 have HR : Hid (Kn.RAt w1 w.heap.size r) := Lib.hid (by rw [hw1]; exact Kn.RAt.new w r _)
 obtain ⟨q, hq⟩ : ∃ q, q = w.heap.size := ⟨_, rfl⟩
 rw [← hq] at HR
 obtain ⟨hpl, dv, z, c0, _, hds, -⟩ := id h0
 have HDS := Lib.hid hds
 obtain ⟨a, c, rfl, hlc, _, hb⟩ := id hds
 have HC0 : Hid (∀ W, Below w.heap.size w W → W.cell? ⟨p, 0, none⟩ = some (.slice a L.length c)) := Lib.hid fun W g => ((hbo.trans (g.mono hbo.size)).cell (p := ⟨p, 0, none⟩) hpl).trans c0
 have HPN : Hid (∀ W, Below w.heap.size w W → Rn.in_ L r = [] → Rn.WithinD wo w L r (.returned (.slice none 0 0)) W) := Lib.hid fun W g h => ⟨_, _, _, rfl, by rw [h]; exact Rn.ds_nil wo, g⟩
 have HPS : Hid (∀ W a n c, Below w.heap.size w W → Bk.Ds wo (.slice a n c) (Rn.in_ L r) → Rn.WithinD wo w L r (.returned (.slice a n c)) W) := Lib.hid fun W a n c g h => ⟨_, _, _, rfl, h, g⟩
 generalize Rn.WithinD wo w L r = post at HPN HPS ⊢
 have HIN := Lib.hid (Rn.in_cut hg.so r)
 have HLL := Lib.hid (And.intro (Rn.lo_le L r) (And.intro (Rn.hi_le L r) hg.few))
 have hlcI : (L.length : Int) ≤ (c : Int) := by omega
 have HBO : Hid (L = [] ∨ ∃ b o, a = some ⟨b, o, none⟩) := Lib.hid (hb.imp id fun ⟨b, o, h, _⟩ => ⟨b, o, h⟩)
 obtain ⟨f, hf⟩ : ∃ f, f = Rn.lo L r := ⟨_, rfl⟩
 obtain ⟨e9, he⟩ : ∃ e, e = Rn.hi L r := ⟨_, rfl⟩
 have HF := Lib.hid (And.intro hf he)
 have HLO : Hid (if r.from_ = true then Rn.at_ L r.lo = f else f = 0) := Lib.hid (by rw [hf]; unfold Rn.lo; split <;> rfl)
 have HHI : Hid (if r.til = true then Rn.at_ L r.hi = e9 else e9 = L.length) := Lib.hid (by rw [he]; unfold Rn.hi; split <;> rfl)
 clear h h0 hbo hg hpl c0 hds hb hlc hf he
 obtain ⟨rf, rt, ⟨r1, r2, r3⟩, ⟨r4, r5, r6⟩⟩ := r
 unfold Kn.R.val
 simp only at HLO HHI hw1 ⊢
 have cl := CL.out w1 HB1.out
 go_enter Tryz.func48, Tryz.ntmps48
 go_upto_region 1 with (fail)
 rw [← hw1, ← hq]
 clear hw1 hq
 go_wp2_with fail
 with_reducible refine cl.mono ?_
 rintro e w2 ⟨rfl, hw2⟩
 subst hw2
 clear cl
 have x0 := HR.out.c0
 have x1 := HR.out.c1
 have HW : Hid (q < w2.heap.size) := Lib.hid HR.out.lo.lt
 simp only at x0 x1
 go_upto_if 10 with (fail)
 go_cut [5] (fun s5 wx => s5 = .int .i64 f ∧ Below w2.heap.size w2 wx)
 case first =>
  cases rf
  ·have HE : Hid (f = 0) := Lib.hid (by have := HLO.out; simpa using this)
   go_wp2
   go_meet
   exact ⟨by rw [HE.out]; rfl, Below.refl _ _⟩
  ·have HE : Hid (Rn.at_ L ⟨r1, r2, r3⟩ = f) := Lib.hid (by have := HLO.out; simpa using this)
   have x2 := HR.out.lo.c0
   have x3 := HR.out.lo.c1
   have x4 := HR.out.lo.c2
   simp only [Nat.reduceAdd] at x2 x3 x4
   have cs := CS.out ⟨r1, r2, r3⟩ w2 HB1.out
   rw [HE.out] at cs
   unfold Kn.V.val at cs
   simp only at cs
   go_wp2_with fail
   with_reducible refine cs.mono ?_
   rintro e w3 ⟨rfl, g3⟩
   have HG3 := Lib.hid g3
   clear cs g3
   go_wp2
   go_meet
   exact ⟨rfl, HG3.out⟩
 case rest =>
  obtain ⟨rfl, hB⟩ := hcut
  have HB2 := Lib.hid hB
  have HBW := Lib.hid (HB1.out.trans (hB.mono HB1.out.size))
  have hR := HR.out.later hB
  have x1 := hR.c1
  have HR2 := Lib.hid hR
  simp only at x1
  clear hB hR x0
  go_upto_if 19 with (fail)
  go_cut [6] (fun s6 wy => s6 = .int .i64 e9 ∧ Below w.heap.size w wy)
  case first =>
   cases rt
   ·have HE : Hid (e9 = L.length) := Lib.hid (by have := HHI.out; simpa using this)
    go_wp2
    go_meet
    exact ⟨by rw [HE.out], HBW.out⟩
   ·have HE : Hid (Rn.at_ L ⟨r4, r5, r6⟩ = e9) := Lib.hid (by have := HHI.out; simpa using this)
    have x5 := HR2.out.hi.c0
    have x6 := HR2.out.hi.c1
    have x7 := HR2.out.hi.c2
    simp only [Nat.reduceAdd] at x5 x6 x7
    have cs := CS.out ⟨r4, r5, r6⟩ _ HBW.out
    rw [HE.out] at cs
    unfold Kn.V.val at cs
    simp only at cs
    go_wp2_with fail
    with_reducible refine cs.mono ?_
    rintro e w3 ⟨rfl, g3⟩
    have HG3 := Lib.hid (HBW.out.trans (g3.mono HBW.out.size))
    clear cs g3
    go_wp2
    go_meet
    exact ⟨rfl, HG3.out⟩
  case rest =>
   obtain ⟨rfl, hB⟩ := hcut
   have HB3 := Lib.hid hB
   have hfl : f ≤ L.length := by rw [HF.out.1]; exact HLL.out.1
   have hel : e9 ≤ L.length := by rw [HF.out.2]; exact HLL.out.2.1
   have hl2 := HLL.out.2.2
   have hf0 : (0 : Int) ≤ (f : Int) := by omega
   by_cases hfe : e9 ≤ f
   ·have hfI : (e9 : Int) ≤ (f : Int) := by omega
    have HE := Lib.hid (HPN.out _ HB3.out (by
     rw [HIN.out, ← HF.out.1, ← HF.out.2]
     exact List.drop_eq_nil_of_le (by rw [List.length_take]; omega)))
    clear hB hfe hfl hel
    go_wp2
    exact HE.out
   ·have hfI : ¬ (e9 : Int) ≤ (f : Int) := by omega
    have hfI2 : (f : Int) < (e9 : Int) := by omega
    have hfI3 : (f : Int) ≤ (e9 : Int) := by omega
    have heI : (e9 : Int) ≤ (c : Int) := by omega
    rcases HBO.out with h0 | ⟨b, o, rfl⟩
    ·rw [h0] at hel; simp at hel; omega
    ·have c0 := HC0.out _ HB3.out
     have HE := Lib.hid (HPS.out _ _ _ _ HB3.out (by
      have := Rn.ds_cut HDS.out (show f < e9 by omega) hel
      rw [HF.out.1, HF.out.2, ← HIN.out, ← HF.out.1, ← HF.out.2] at this
      exact this))
     clear hB hfe hfl hel
     go_wp2
     exact HE.out
def Rn.RangeD (wo w : World) (L : List Dd.D) (r : Kn.R) (e : Ending) (w' : World) : Prop := ∃ m a n c, e = .returned (.func (.func 49) #[] #[.pointer (some ⟨m, 0, none⟩)]) ∧ w.heap.size ≤ m ∧ w'.heap[m]? = some (.cells #[.slice a n c] 23 (0, 0)) ∧ Bk.Ds wo (.slice a n c) (Rn.in_ L r) ∧ Below w.heap.size w w'
set_option maxHeartbeats 2000000 in
set_option maxRecDepth 100000 in
theorem Rn.range_c {wo w : World} {p : Nat} {s : List Kn.C} {L : List Dd.D} (h : Rn.P wo p s L) (hbo : Below wo.heap.size wo w) (hg : Rn.Gd s L) (r : Kn.R) :
 Calls Tryz.prog 21 #[.pointer (some ⟨p, 0, none⟩), r.val] w (Rn.RangeD wo w L r) := by
 obtain ⟨w1, hw1⟩ : ∃ w1, w1 = w.alloc (.cells #[.bool r.from_, .bool r.til, .bool r.lo.null, .int .i64 r.lo.n, .string r.lo.s, .bool r.hi.null, .int .i64 r.hi.n, .string r.hi.s] 43) := ⟨_, rfl⟩
 have HB1 : Hid (Below w.heap.size w w1) := Lib.hid (by rw [hw1]; exact (Below.refl _ w).alloc (Nat.le_refl _) _)
 have hR : Kn.RAt w1 w.heap.size r := by rw [hw1]; exact Kn.RAt.new w r _
 have cw := Rn.within_c h (hbo.trans (HB1.out.mono hbo.size)) hg r
 unfold Rn.WithinD at cw
 have CW := Lib.hid cw
 have HPO : Hid (∀ W v a n c, W.heap.size = v → w.heap.size ≤ v → Bk.Ds wo (.slice a n c) (Rn.in_ L r) → Below w.heap.size w W → Rn.RangeD wo w L r (.returned (.func (.func 49) #[] #[.pointer (some ⟨v, 0, none⟩)])) (W.alloc (.cells #[.slice a n c] 23))) := Lib.hid fun W v a n c hv h1 h2 h3 => by
  subst hv
  exact ⟨_, a, n, c, rfl, h1, heap_alloc_new W _, h2, h3.alloc h1 _⟩
 generalize Rn.RangeD wo w L r = post at HPO ⊢
 obtain ⟨x0, x1, ⟨x2, x3, x4⟩, ⟨x5, x6, x7⟩⟩ := hR
 obtain ⟨q, hq⟩ : ∃ q, q = w.heap.size := ⟨_, rfl⟩
 rw [← hq] at x0 x1 x2 x3 x4 x5 x6 x7
 obtain ⟨rf, rt, ⟨r1, r2, r3⟩, ⟨r4, r5, r6⟩⟩ := r
 unfold Kn.R.val at CW ⊢
 simp only [Nat.reduceAdd] at x0 x1 x2 x3 x4 x5 x6 x7 CW hw1 ⊢
 clear h hbo hg cw
 go_enter Tryz.func21, Tryz.ntmps21
 go_upto_region 1 with (fail)
 rw [← hw1, ← hq]
 clear hw1 hq
 go_wp2_with fail
 with_reducible refine CW.out.mono ?_
 rintro e w2 ⟨a, n, c, rfl, hd, g2⟩
 have HB2 : Hid (Below w.heap.size w w2) := Lib.hid (HB1.out.trans (g2.mono HB1.out.size))
 have HE := Lib.hid (HPO.out w2 _ a n c rfl HB2.out.size hd HB2.out)
 clear hd g2 CW
 go_wp2
 exact HE.out
def Rn.EnD (n₀ : Nat) (d : Dd.D) (args : Array Value) (W : World) : Prop := ∃ u, args = #[.agg #[.bool d.gone, u]] ∧ Sk.Rw n₀ W u d.row
set_option maxHeartbeats 4000000 in
set_option maxRecDepth 100000 in
theorem Rn.range1_seq {wo w : World} {D : Nat → Prop} {m : Nat} {a : Option Addr} {n c : Nat} {K : List Dd.D} (hm : w.heap[m]? = some (.cells #[.slice a n c] 23 (0, 0))) (hd : Bk.Ds wo (.slice a n c) K) (hw : Below wo.heap.size wo w)
 (hD : ∀ b, b < wo.heap.size → D b) (hk : ∀ d ∈ K, (∀ v ∈ d.row, Kn.Z v) ∧ d.row.length ≤ 6 ∧ d.row ≠ []) (hl : K.length ≤ 1048576) :
 Rn.Seq Tryz.prog 49 #[.pointer (some ⟨m, 0, none⟩)] (Rn.EnD w.heap.size) D K w := by
 intro l J Jx W hW hJ hJx hY h0
 have hm2 := (hW.block m (Array.getElem?_eq_some_iff.1 hm).1).trans hm
 have c0 : W.cell? ⟨m, 0, none⟩ = some (.slice a n c) := by rw [cell_of_row _ _ _ _ _ _ hm2]; rfl
 have HWW : Hid (Below wo.heap.size wo W) := Lib.hid (hw.trans (hW.mono hw.size))
 have HDS := Lib.hid hd
 have HD := Lib.hid hD
 have HK := Lib.hid hk
 have HL := Lib.hid hl
 have HS := Lib.hid hW.size
 have HY := Lib.hid hY
 have HJ0 := Lib.hid h0
 have HJA := Lib.hid hJ
 obtain ⟨a', c', e, _, _, hb⟩ := hd
 simp only [Value.slice.injEq] at e
 obtain ⟨rfl, rfl, rfl⟩ := e
 have HBO := Lib.hid hb
 clear hm hw hD hk hl hW hJ hJx hY h0 hm2 hb
 refine callsIn_of_wp Tryz.func49 rfl trivial ?_ rfl
 simp only [Tryz.ntmps49, List.size_toArray, List.length_cons, List.length_nil, Nat.reduceAdd, Nat.reduceSub, Array.replicate_succ, Array.replicate_zero, List.push_toArray, List.append_toArray, List.nil_append, List.cons_append]
 gi_wp2
 clear c0
 gi_loopw [7] (fun i wr => ∃ k : Nat, k ≤ K.length ∧ i = .int .i64 k ∧ J (K.take k) wr ∧ Rn.Kd D W wr) (fun i _ => K.length - (intOf i).toNat)
 case atStart => exact ⟨0, Nat.zero_le _, rfl, HJ0.out, Rn.Kd.below (Below.refl _ _)⟩
 case round =>
  obtain ⟨k, hk, rfl, hj, hkd⟩ := hrel
  have HJ := Lib.hid hj
  have HKD := Lib.hid hkd
  clear hj hkd
  by_cases hl : k < K.length
  ·rcases HBO.out with h0 | ⟨b, o, rfl, hb, hc⟩
   ·rw [h0] at hl; simp at hl
   have hx := List.getElem?_eq_getElem hl
   generalize K[k] = d at hx
   have hlow : Below wo.heap.size wo wr := HWW.out.trans (HKD.out.low HD.out HWW.out.size)
   obtain ⟨u, c0, c1, hu⟩ := hc k d hx
   have c0 := (hlow.cell (p := ⟨b, o + k * 2, none⟩) hb).trans c0
   have c1 := (hlow.cell (p := ⟨b, o + k * 2 + 1, none⟩) hb).trans c1
   have hmem := HK.out d (List.mem_of_getElem? hx)
   have hin := Rn.vals_in (hu.later hlow) hmem.2.2 hmem.1 (by omega)
   obtain ⟨ua, uc, rfl, -⟩ := hu
   have HAL : Hid (Below wr.heap.size wr (wr.alloc (.cells #[.bool d.gone, .slice ua d.row.length uc] 41))) := Lib.hid ((Below.refl _ _).alloc (Nat.le_refl _) _)
   have x0 := Kn.cell_new wr #[.bool d.gone, .slice ua d.row.length uc] 41 0 _ rfl
   have x1 := Kn.cell_new wr #[.bool d.gone, .slice ua d.row.length uc] 41 1 _ rfl
   simp only [List.getElem_toArray, List.getElem_cons_zero, List.getElem_cons_succ] at x0 x1
   have CG := Lib.hid (Rn.given_c d.gone (hin.later HAL.out))
   have hkl : (k : Int) < (K.length : Int) := by omega
   have hk0 : (0 : Int) ≤ (k : Int) := by omega
   have hk7 : (k : Int) ≤ 1048576 := by have := HL.out; omega
   have HTK : Hid (K.take (k + 1) = K.take k ++ [d] ∧ K.take (k + 1) <+: K) := Lib.hid ⟨by
    obtain ⟨h1, rfl⟩ := List.getElem?_eq_some_iff.1 hx
    exact List.take_succ_eq_append_getElem h1, List.take_prefix _ _⟩
   have HKL := Lib.hid hl
   have HWS : Hid (w.heap.size ≤ wr.heap.size) := Lib.hid (Nat.le_trans HS.out HKD.out.size)
   clear hx hl hk hmem hin hlow hc hb
   gi_upto_region 3 with (fail)
   obtain ⟨q, hq⟩ : ∃ q, q = wr.heap.size := ⟨_, rfl⟩
   rw [← hq] at x0 x1 ⊢
   generalize wr.alloc _ = w3 at HAL x0 x1 CG ⊢
   have HY9 : Hid (∀ W3 u, Below w3.heap.size w3 W3 → Sk.Rw w3.heap.size W3 u d.row → ∃ fn tmps assign body, (Instr.yield l #[.agg #[.bool d.gone, u]]).run Tryz.prog W3 = .ok (.round l fn tmps assign body) W3 ∧ RoundIn Fence.wide 7 Tryz.prog l fn tmps assign body W3 fun x W' => (x = .returned (.bool true) ∧ J (K.take (k + 1)) W' ∧ Rn.Kd D W W') ∨ (x = .returned (.bool false) ∧ Jx (K.take (k + 1)) W')) := Lib.hid fun W3 u g hu => by
    have hg : Below wr.heap.size wr W3 := HAL.out.trans (g.mono HAL.out.size)
    have hk3 : Rn.Kd D W W3 := HKD.out.trans (Rn.Kd.below hg)
    obtain ⟨fn, tmps, assign, body, hy, hR⟩ := HY.out (K.take k) d _ W3 (Rn.own_below HJA.out HJ.out hg) ⟨u, rfl, hu.mono (Nat.le_trans HWS.out HAL.out.size)⟩ hk3 (by rw [← HTK.out.1]; exact HTK.out.2)
    rw [← HTK.out.1] at hR
    refine ⟨fn, tmps, assign, body, hy, hR.mono ?_⟩
    rintro x W' (⟨rfl, j3, k3⟩ | ⟨rfl, j3⟩)
    ·exact .inl ⟨rfl, j3, hk3.trans k3⟩
    ·exact .inr ⟨rfl, j3⟩
   generalize d.gone = dg at x0 CG HY9
   generalize d.row.length = dn at x1 CG
   clear hq c0 c1
   gi_wp2_with (refine ⟨trivial, ?_⟩; gi_at_call 44; refine (callsIn_wide.2 CG.out).mono ?_; rintro e w5 ⟨u, rfl, hu, g5⟩; obtain ⟨fn, tmps, assign, body, hy, hR⟩ := HY9.out w5 u g5 hu; clear hu g5 x0 x1)
   refine hR.mono ?_
   rintro x W3 (⟨rfl, j3, k3⟩ | ⟨rfl, j3⟩)
   ·have HJ3 := Lib.hid j3
    have HK3 := Lib.hid k3
    clear j3 k3 hy hR
    gi_wp2
    go_roundw
    case rel => exact ⟨k + 1, HKL.out, by simp, HJ3.out, HK3.out⟩
    case measure => have := HKL.out; simp [intOf]; omega
   ·have HJ3 := Lib.hid j3
    clear j3 hy hR
    gi_wp2
    refine bodyPost_ret (results_none rfl _ _ _) rfl ?_
    exact ⟨⟨_, rfl⟩, .inr ⟨K.take (k + 1), HTK.out.2, by rw [HTK.out.1]; simp, HJ3.out⟩⟩
  ·obtain rfl : k = K.length := by omega
   have hkl : ¬ (K.length : Int) < (K.length : Int) := by omega
   clear hl hk
   gi_wp2
   go_end0
   exact ⟨⟨_, rfl⟩, .inl (by have := HJ.out; rwa [List.take_length] at this)⟩
end Go.Proofs.YtbelkhkllneifaaGreatDoor

namespace Go.Proofs.YtbelkhkllneifaaGreatDoor
open Go Go.RowKit Go.Shelf
def Rn.Dq (q m n : Nat) (b : Nat) : Prop := b < q ∨ b = m ∨ b = n
structure Rn.Ga (q m n : Nat) (w3 : World) (bb B n0 : Nat) (l : List Dd.D) (W : World) : Prop where
 kd : Rn.Kd (Rn.Dq q m n) w3 W
 acc : ∃ v M, W.heap[bb]? = some (.cells #[v] 23 (0, 0)) ∧ Dk.Own 41 2 Rn.e2 B W v M ∧ M.length = l.length ∧ ∀ (i : Nat) (x : Dd.D), l[i]? = some x → ∃ y : Bool × (Option Addr × Nat × Nat), M[i]? = some y ∧ y.1 = x.gone ∧ Sk.Rw n0 W (Bk.sv y.2) x.row
theorem Rn.Ga.own {q m n bb B n0 C : Nat} {w3 : World} (l0 : List Dd.D) (hC : q ≤ C) (hm : m < C) (hn : n < C) : OwnFrom C (fun pre W => Rn.Ga q m n w3 bb B n0 (l0 ++ pre) W) := by
 rintro pre A' B' row ⟨h1, v, M, h2, h3, h4, h5⟩ hg hr
 refine ⟨h1.grew (B := C) (fun b hb => ?_) hg hr, v, M, Rn.blk_own h2 hg hr, Rn.own_own C _ _ _ () _ _ row h3 hg hr, h4, fun i x hx => ?_⟩
 ·rcases hb with hb | hb | hb <;> omega
 ·obtain ⟨y, e1, e2, e3⟩ := h5 i x hx
  exact ⟨y, e1, e2, Rn.own_own C _ _ _ () _ _ row e3 hg hr⟩
theorem Rn.Ga.step {q m n bb B n0 C : Nat} {w3 W w6 : World} {l : List Dd.D} {v v6 : Value} {M : List (Bool × (Option Addr × Nat × Nat))} {x : Dd.D} {y : Option Addr × Nat × Nat} (hq : q ≤ B) (hbb : q ≤ bb) (hbm : bb ≠ m) (hbn : bb ≠ n) (hm : ∀ cs, W.heap[m]? ≠ some (.cells cs 41 (0, 0))) (hn : ∀ cs, W.heap[n]? ≠ some (.cells cs 41 (0, 0)))
 (h1 : Rn.Kd (Rn.Dq q m n) w3 W) (h2 : W.heap[bb]? = some (.cells #[v] 23 (0, 0))) (h3 : Dk.Own 41 2 Rn.e2 B W v M) (h4 : M.length = l.length)
 (h5 : ∀ (i : Nat) (x : Dd.D), l[i]? = some x → ∃ y : Bool × (Option Addr × Nat × Nat), M[i]? = some y ∧ y.1 = x.gone ∧ Sk.Rw n0 W (Bk.sv y.2) x.row)
 (ho : Dk.Own 41 2 Rn.e2 B w6 v6 (M ++ [(x.gone, y)])) (hg : Ty.Grew W w6 v v6) (hx : Sk.Rw n0 W (Bk.sv y) x.row) :
 KeepsFrom C W (w6.setCell ⟨bb, 0, none⟩ v6) ∧ Rn.Kd (Rn.Dq q m n) W (w6.setCell ⟨bb, 0, none⟩ v6) ∧ Rn.Ga q m n w3 bb B n0 (l ++ [x]) (w6.setCell ⟨bb, 0, none⟩ v6) := by
 have off : ∀ (b : Nat) (cs : Array Value) (T : TypeId), W.heap[b]? = some (.cells cs T (0, 0)) → T ≠ 41 → w6.heap[b]? = W.heap[b]? := fun b cs T hb hT =>
  hg.by_.block b (Array.getElem?_eq_some_iff.1 hb).1 fun e => by
   obtain ⟨cs', hc⟩ := h3.typed b (by first | exact e | exact e.symm)
   rw [hb] at hc
   simp only [Option.some.injEq, Obj.cells.injEq] at hc
   exact hT hc.2.1
 have keep : ∀ (b : Nat) (cs : Array Value) (T : TypeId), W.heap[b]? = some (.cells cs T (0, 0)) → T ≠ 41 → b ≠ bb → (w6.setCell ⟨bb, 0, none⟩ v6).heap[b]? = W.heap[b]? := fun b cs T hb hT hn =>
  (heap_setCell_other w6 ⟨bb, 0, none⟩ b v6 hn).trans (off b cs T hb hT)
 have rows : ∀ (u : Value) (r : List Kn.V), Sk.Rw n0 W u r → Sk.Rw n0 (w6.setCell ⟨bb, 0, none⟩ v6) u r := fun u r h => h.same fun b hb => by
  obtain ⟨cs, hc⟩ := h.typed b hb
  refine keep b cs _ hc (by decide) fun e => ?_
  rw [e, h2] at hc
  simp only [Option.some.injEq, Obj.cells.injEq] at hc
  exact absurd hc.2.1 (by decide)
 have hb6 := (off bb _ _ h2 (by decide)).trans h2
 have hk : Rn.Kd (Rn.Dq q m n) W (w6.setCell ⟨bb, 0, none⟩ v6) := (Rn.Kd.grown hg.by_ fun r hr hd => by
  have hB := h3.base_le r (by first | exact hr | exact hr.symm)
  obtain ⟨cs, hc⟩ := h3.typed r (by first | exact hr | exact hr.symm)
  rcases hd with hd | rfl | rfl
  ·omega
  ·exact hm cs hc
  ·exact hn cs hc).trans (Rn.Kd.set _ (fun hd => by
  rcases hd with hd | hd | hd
  ·exact absurd (show bb < q from hd) (by omega)
  ·exact hbm hd
  ·exact hbn hd) _)
 refine ⟨(Rn.kf_grew h3 hg).trans ((KeepsOthers.setCell _ _ _).from _), hk, h1.trans hk, v6, M ++ [(x.gone, y)], heap_setCell_same w6 bb 0 _ _ _ hb6, ?_, by rw [List.length_append, List.length_append, h4]; rfl, fun i z hz => ?_⟩
 ·refine ho.same fun b hb => heap_setCell_other w6 ⟨bb, 0, none⟩ b v6 fun e => ?_
  obtain ⟨cs, hc⟩ := ho.typed b hb
  have e9 : b = bb := e
  rw [e9, hb6] at hc
  simp only [Option.some.injEq, Obj.cells.injEq] at hc
  exact absurd hc.2.1 (by decide)
 ·rw [List.getElem?_append] at hz
  rw [List.getElem?_append, h4]
  split at hz
  ·rename_i hlt
   rw [if_pos hlt]
   obtain ⟨u, e1, e2, e3⟩ := h5 i z hz
   exact ⟨u, e1, e2, rows _ _ e3⟩
  ·rename_i hlt
   rw [if_neg hlt]
   rw [List.getElem?_singleton] at hz ⊢
   split at hz
   ·rename_i h0
    rw [if_pos h0]
    obtain rfl := Option.some.inj hz
    exact ⟨_, rfl, rfl, rows _ _ hx⟩
   ·cases hz
theorem Rn.Ga.ds {B n0 : Nat} {W : World} {l : List Dd.D} {v : Value} {M : List (Bool × (Option Addr × Nat × Nat))} (h3 : Dk.Own 41 2 Rn.e2 B W v M) (h4 : M.length = l.length)
 (h5 : ∀ (i : Nat) (x : Dd.D), l[i]? = some x → ∃ y : Bool × (Option Addr × Nat × Nat), M[i]? = some y ∧ y.1 = x.gone ∧ Sk.Rw n0 W (Bk.sv y.2) x.row) : Bk.Ds W v l := by
 rcases h3.form with ⟨rfl, e⟩ | ⟨g, c, rfl, hc, hm, _, hgw⟩
 ·rw [e] at h4
  have : l = [] := List.eq_nil_of_length_eq_zero h4.symm
  subst this
  exact Rn.ds_nil W
 ·refine ⟨_, c, by rw [h4], by rw [← h4]; exact hc, by unfold maxLen at hm; omega, .inr ⟨g, 0, rfl, hgw, fun i x hx => ?_⟩⟩
  obtain ⟨y, e1, e2, e3⟩ := h5 i x hx
  have c0 := h3.cell Rn.e2_len rfl e1 (j := 0) (by decide)
  have c1 := h3.cell Rn.e2_len rfl e1 (j := 1) (by decide)
  rw [Nat.zero_add]
  refine ⟨Bk.sv y.2, ?_, c1, Rn.rw_vals e3⟩
  rw [← e2]
  exact c0
end Go.Proofs.YtbelkhkllneifaaGreatDoor
