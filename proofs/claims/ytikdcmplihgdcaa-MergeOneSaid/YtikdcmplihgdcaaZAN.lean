import Derived.Test.YtikdcmplihgdcaaRows
import Derived.OrdersHeld
import Derived.Deep.RegionHeld3
import Derived.OrdersIn
import Derived.RangeFuncCalls
import Derived.TacticsIn
import Derived.Test.YtikdcmplihgdcaaZAI
import Derived.RangeFuncNested
import Derived.RangeFuncBound
import Derived.RangeFuncLeaves
import Derived.Lib.QuietBelow
import Derived.Shelf.Abstract
import Derived.Shelf.RegionOpen
import Derived.OwnWalkIn
import Derived.TacticsInMore
import Derived.LoopNIn
import Derived.LoopIn
import Derived.BigQuiet
namespace Go.Proofs.Ytikdcmplihgdcaa
section
open Go
section
variable {P : Program} {ops : Array Oper} {Q : Exit → Act → World → Prop} {md : Region.Mode} {S S' : World → Prop}
def Sk.Calm (Q : Exit → Act → World → Prop) : Exit → Act → World → Prop
 | .panic _, _, _ => False
 | .outgrown, _, _ => False
 | e, a, w => Q e a w
theorem Sk.Calm.imp {Q : Exit → Act → World → Prop} : ∀ (e : Exit) (a : Act) (w : World), Sk.Calm Q e a w → Q e a w := fun e a w h => by
 cases e <;> first | exact h | exact (h : False).elim
theorem Sk.Calm.normal {Q : Exit → Act → World → Prop} {a : Act} {w : World} (h : Q .normal a w) : Sk.Calm Q .normal a w := h
theorem Sk.Calm.shut {Q : Exit → Act → World → Prop} : ¬ LetsOut (Sk.Calm Q) := fun ⟨_, _, h⟩ => h
def Sk.noDefer (ops : Array Oper) : Bool := ops.all fun o => match o.op with | .defer _ => false | _ => true
theorem Sk.noDefer_spec (h : Sk.noDefer ops = true) {i : Nat} {o : Oper} (hi : ops[i]? = some o) : ∀ c, o.op ≠ .defer c := fun c e => by
 obtain ⟨hl, rfl⟩ := Array.getElem?_eq_some_iff.1 hi
 unfold Sk.noDefer at h
 have := Array.all_eq_true.1 h i hl
 rw [e] at this
 cases this
theorem Sk.op_round {l n i : Nat} {K : Act → World → Prop} {a : Act} {w : World} (hL : ¬ LetsOut Q) (hd : Sk.noDefer ops = true) (h : wpOp P ops Q i K a w) : wpOpIn (Fence.wide.inRound l) n P ops Q i K a w := by
 unfold wpOp at h
 unfold wpOpIn
 cases ho : ops[i]? with
 | none => simpa [ho] using h
 | some o =>
   simp only [ho] at h ⊢
   split
   ·rename_i hw
    simp only [hw, if_true] at h
    rcases h with h | ⟨_, h⟩
    case inr => exact absurd h hL
    refine ⟨fun _ _ => trivial, ?_⟩
    rw [Oper.semAt_eq _ _ _ (Sk.noDefer_spec hd ho)]
    unfold Oper.wp at h
    generalize (execOp a.eval o).run P w = r at h ⊢
    cases r with
    | ok x w' =>
      cases x with
      | value v => exact h
      | skip => exact h
      | defer d => exact h
      | enter f args =>
        refine ⟨fun e => (by cases e), CallsIn.inRound l (callsIn_wide.2 ?_)⟩
        exact h
      | row row args =>
        refine ⟨fun e => (by cases e), fun c cs _ => ?_⟩
        obtain ⟨v, w'', hr, hs⟩ := h c cs
        exact ⟨v, w'', hr, stepsIn_wide.2 hs⟩
      | _ => exact (h : False).elim
    | halt x w' =>
      cases x with
      | panic v => exact h
      | _ => exact (h : False).elim
   ·rename_i hw
    simp only [hw] at h
    exact ⟨fun _ _ => trivial, h⟩
end
end
section
open Go Go.RowKit
structure Rn.Kd (D : Nat → Prop) (W W' : World) : Prop where
 os : W'.os = W.os
 tape : W'.tape = W.tape
 output : W'.output = W.output
 size : W.heap.size ≤ W'.heap.size
 same : ∀ b, D b → b < W.heap.size → W'.heap[b]? = W.heap[b]?
theorem Rn.Kd.trans {D : Nat → Prop} {X Y Z : World} (h : Rn.Kd D X Y) (g : Rn.Kd D Y Z) : Rn.Kd D X Z :=
 ⟨g.os.trans h.os, g.tape.trans h.tape, g.output.trans h.output, Nat.le_trans h.size g.size, fun b hb hx => (g.same b hb (Nat.lt_of_lt_of_le hx h.size)).trans (h.same b hb hx)⟩
theorem Rn.Kd.below {D : Nat → Prop} {W W' : World} (h : Below W.heap.size W W') : Rn.Kd D W W' := ⟨h.os, h.tape, h.output, h.size, fun b _ hb => h.block b hb⟩
theorem Rn.Kd.set {D : Nat → Prop} (W : World) {a : Addr} (ha : ¬ D a.block) (v : Value) : Rn.Kd D W (W.setCell a v) :=
 ⟨rfl, rfl, rfl, by simp [World.setCell], fun b hb _ => Below.heap_setCell _ _ _ _ fun e => by subst e; exact ha hb⟩
theorem Rn.Kd.put {D : Nat → Prop} (W : World) {l : Nat} (hl : ¬ D l) (o : Obj) : Rn.Kd D W (W.putObj l o) :=
 ⟨rfl, rfl, rfl, by simp, fun b hb _ => World.putObj_heap_other fun e => by subst e; exact hl hb⟩
theorem Rn.Kd.grown {D : Nat → Prop} {W W' : World} {r : Option Nat} (h : W.grownBy W' r) (hr : ∀ b, r = some b → ¬ D b) : Rn.Kd D W W' :=
 ⟨h.os, h.tape, h.output, h.size, fun b hb hx => h.block b hx fun e => hr b e.symm hb⟩
theorem Rn.Kd.low {D : Nat → Prop} {W W' : World} {m : Nat} (h : Rn.Kd D W W') (hD : ∀ b, b < m → D b) (hm : m ≤ W.heap.size) : Below m W W' :=
 ⟨h.os, h.tape, h.output, h.size, fun b hb => h.same b (hD b hb) (Nat.lt_of_lt_of_le hb hm)⟩
theorem Rn.own_below {β : Type} {B : Nat} {J : β → World → Prop} (hJ : OwnFrom B J) {s : β} {W W' : World} (h : J s W) (g : Below W.heap.size W W') : J s W' :=
 hJ s W W' none h ⟨g.os, g.tape, g.output, g.size, fun k hk _ => g.block k hk⟩ fun r e => by cases e
theorem Rn.kf_below {B : Nat} {W W' : World} (h : Below W.heap.size W W') : KeepsFrom B W W' :=
 ⟨h.size, fun k _ _ hk _ => (h.block k (Array.getElem?_eq_some_iff.1 hk).1).trans hk⟩
def Rn.Seq {α : Type} (P : Program) (gf : FuncId) (lb : Array Value) (En : α → Array Value → World → Prop) (D : Nat → Prop) (xs : List α) (w : World) : Prop :=
 ∀ (l : Nat) (J Jx : List α → World → Prop) (W : World), Below w.heap.size w W → OwnFrom W.heap.size J → OwnFrom W.heap.size Jx →
   (∀ pre x args W1, J pre W1 → En x args W1 → Rn.Kd D W W1 → pre ++ [x] <+: xs → YieldAt Fence.wide 7 P l args W1 fun e W' =>
    (e = .returned (.bool true) ∧ J (pre ++ [x]) W' ∧ Rn.Kd D W1 W') ∨ (e = .returned (.bool false) ∧ Jx (pre ++ [x]) W')) →
   J [] W →
   CallsIn Fence.wide 8 P gf (#[.func (.yield l) #[] #[]] ++ lb) W fun e W' => (∃ v, e = .returned v) ∧ (J xs W' ∨ ∃ pre, pre <+: xs ∧ pre ≠ [] ∧ Jx pre W')
def Rn.left {α : Type} (B : Nat) (D : Nat → Prop) (I : List α → World → Prop) (Ix : Code → List α → World → Prop) (xs : List α) (W : World) : Exit → Act → World → Prop
 | .normal, _, W' => KeepsFrom B W W' ∧ Rn.Kd D W W' ∧ I xs W'
 | .ret, _, W' => KeepsFrom B W W' ∧ Ix .ret xs W'
 | .exit id, _, W' => KeepsFrom B W W' ∧ Ix (.exit id) xs W'
 | .goto t, _, W' => KeepsFrom B W W' ∧ Ix (.goto t) xs W'
 | .panic _, _, _ => False
 | .outgrown, _, _ => False
theorem Rn.own_put {B : Nat} {I : World → Prop} (h : OwnFrom B fun (_ : Unit) W => I W) {W : World} {l : Nat} {o : Obj} (o' : Obj) (hs : I W) (hB : B ≤ l) (hl : W.heap[l]? = some o) (ho : o.isCells = false) : I (W.putObj l o') :=
 OwnFrom.putObj (I := fun (_ : Unit) W => I W) (s := ()) h o' hs hB hl ho
section
variable {P : Program}
theorem Rn.range_w {α : Type} {g : Operand} {ps : Array Tmp} {assign body : Code} {Q : Exit → Act → World → Prop} {a : Act} {w : World} {gf : Nat} {lb : Array Value}
 (hg : a.eval g = .func (.func gf) #[] lb) (eg : ∀ args w, (callFunc gf args).run P w = .ok (.enter gf args) w)
 {En : α → Array Value → World → Prop} {D : Nat → Prop} {xs : List α} {w0 : World} (hseq : Rn.Seq P gf lb En D xs w0) (hb0 : Below w0.heap.size w0 w) (hD : ∀ b, D b → b < w.heap.size)
 (hps : ∀ x args W, En x args W → args.size = ps.size)
 (I : List α → World → Prop) (Ix : Code → List α → World → Prop) (hI : OwnFrom w.heap.size I) (hIx : ∀ c, OwnFrom w.heap.size (Ix c)) (h0 : I [] w)
 (Ax : List α → α → Act → World → Prop) (hAx : ∀ pre x a', OwnFrom w.heap.size fun (_ : Unit) W => Ax pre x a' W)
 (hassign : ∀ l pre x args W, I pre W → En x args W → pre ++ [x] <+: xs → Rn.Kd D w W →
  assign.wpIn (Fence.wide.inRound l) 7 P (Exit.then (fun a' W' => Below W.heap.size W W' ∧ Ax pre x a' W') (fun _ _ _ => False)) { tmps := (ps.zip args).foldl (fun t (p, v) => t.setIfInBounds p v) a.tmps, defers := [] } W)
 (hbody : ∀ l pre x a' W, w.heap.size ≤ l → (∃ r, W.heap[l]? = some (.loop r)) → Ax pre x a' W → pre ++ [x] <+: xs → Rn.Kd D w W → body.wpIn (Fence.wide.inRound l) 7 P (Rn.left w.heap.size D I Ix (pre ++ [x]) W) a' W)
 (hdone : ∀ N W, w.heap.size ≤ N → I xs W → W.heap[N]? = some (.deferred (some [])) → Q .normal { a with defers := { target := .collected N, args := #[] } :: a.defers } W)
 (hstop : ∀ N c pre W, w.heap.size ≤ N → pre <+: xs → pre ≠ [] → Ix c pre W → W.heap[N]? = some (.deferred (some [])) → c.wpIn Fence.wide 9 P Q { a with defers := { target := .collected N, args := #[] } :: a.defers } W) :
 (Code.rangeFunc g ps assign body).wpIn Fence.wide 9 P Q a w := by
 refine wpIn_rangeFunc fun fn hfn => ?_
 let mk : LoopState → Option Code → Loop := fun st pe => { state := st, pending := pe, fn, tmps := a.tmps, params := ps, assign, body, defers := w.heap.size }
 obtain ⟨W1, hW1⟩ : ∃ W1, W1 = (w.alloc (.deferred (some []))).alloc (.loop (mk .ready none)) := ⟨_, rfl⟩
 have hsz : W1.heap.size = w.heap.size + 2 := by rw [hW1]; simp
 have hlo : W1.heap[w.heap.size + 1]? = some (.loop (mk .ready none)) := by
  have := World.alloc_heap_new (w.alloc (.deferred (some []))) (.loop (mk .ready none))
  rw [World.size_alloc] at this
  rw [hW1]
  exact this
 have hde : W1.heap[w.heap.size]? = some (.deferred (some [])) := by
  rw [hW1]
  exact (Below.heap_alloc _ _ _ (by simp)).trans (World.alloc_heap_new w _)
 have hI1 : I [] W1 := by rw [hW1]; exact hI.alloc _ (hI.alloc _ h0)
 have hb1 : Below w.heap.size w W1 := by rw [hW1]; exact ((Below.refl _ w).alloc (Nat.le_refl _) _).alloc (by simp) _
 have far : ∀ {A B : World} {row : Option Nat} {k : Nat}, A.grownBy B row → (∀ r, row = some r → W1.heap.size ≤ r ∧ ∃ o : Obj, A.heap[r]? = some o ∧ o.isCells = false) → k < A.heap.size → k < w.heap.size + 2 → B.heap[k]? = A.heap[k]? := fun hg hr hk h2 =>
  hg.block _ hk fun e => by have := (hr _ e.symm).1; omega
 have nD : ∀ k, w.heap.size ≤ k → ¬ D k := fun k hk hd => by have := hD k hd; omega
 refine ⟨w.heap.size + 1, [{ target := .collected w.heap.size, args := #[] }], W1, { target := .fn (.func gf) lb, args := #[.func (.yield (w.heap.size + 1)) #[] #[]] }, W1, gf,
  #[.func (.yield (w.heap.size + 1)) #[] #[]] ++ lb, W1, by rw [hW1]; exact run_enterLoop_outer _ _ _ _ _, ?_, ?_, ?_, fun _ => by omega, ?_⟩
 ·simp only [resolve, hg]
  simp [go_sem]
 ·intro f' hf'
  exact trivial
 ·simp [invoke, go_sem, eg]
 refine (hseq (w.heap.size + 1) (fun s W => I s W ∧ W.heap[w.heap.size + 1]? = some (.loop (mk .ready none)) ∧ W.heap[w.heap.size]? = some (.deferred (some [])))
  (fun s W => ∃ c, Ix c s W ∧ W.heap[w.heap.size + 1]? = some (.loop (mk .done (some c))) ∧ W.heap[w.heap.size]? = some (.deferred (some []))) W1 (hb0.trans (hb1.mono hb0.size)) ?_ ?_ ?_ ⟨hI1, hlo, hde⟩).mono ?_
 ·rintro s A B row ⟨h1, h2, h3⟩ hgr hr
  have hA := (Array.getElem?_eq_some_iff.1 h2).1
  exact ⟨hI s A B row h1 hgr fun r e => ⟨by have := (hr r e).1; omega, (hr r e).2⟩, (far hgr hr hA (by omega)).trans h2, (far hgr hr (by omega) (by omega)).trans h3⟩
 ·rintro s A B row ⟨c, h1, h2, h3⟩ hgr hr
  have hA := (Array.getElem?_eq_some_iff.1 h2).1
  exact ⟨c, hIx c s A B row h1 hgr fun r e => ⟨by have := (hr r e).1; omega, (hr r e).2⟩, (far hgr hr hA (by omega)).trans h2, (far hgr hr (by omega) (by omega)).trans h3⟩
 ·
  rintro pre x args W ⟨h1, h2, h3⟩ he hbW hpx
  refine ⟨fn, _, assign, body, run_yield (P := P) h2 (hps x args W he), roundIn_of_wpIn hfn (wpIn_mono (hassign (w.heap.size + 1) pre x args W h1 he hpx ((Rn.Kd.below hb1).trans hbW)) ?_)⟩
  have hlW := (Array.getElem?_eq_some_iff.1 h2).1
  rintro e a2 W2 hp
  cases e with
  | normal =>
    obtain ⟨g2, x2⟩ := hp
    have l2 := (g2.block _ hlW).trans h2
    have d2 := (g2.block _ (by omega)).trans h3
    have hlt := (Array.getElem?_eq_some_iff.1 l2).1
    refine ⟨_, run_beginRound l2 rfl, ?_⟩
    have l3 : (W2.putObj (w.heap.size + 1) (.loop { mk .ready none with state := .busy })).heap[w.heap.size + 1]? = some (.loop { mk .ready none with state := .busy }) := World.putObj_heap_same hlt
    have d3 : (W2.putObj (w.heap.size + 1) (.loop { mk .ready none with state := .busy })).heap[w.heap.size]? = some (.deferred (some [])) := (World.putObj_heap_other (by omega)).trans d2
    have b3 : Rn.Kd D W (W2.putObj (w.heap.size + 1) (.loop { mk .ready none with state := .busy })) := (Rn.Kd.below g2).trans (Rn.Kd.put _ (nD _ (by omega)) _)
    refine wpIn_mono (hbody (w.heap.size + 1) pre x a2 _ (by omega) ⟨_, l3⟩ (Rn.own_put (hAx pre x a2) _ x2 (by omega) l2 rfl) hpx (((Rn.Kd.below hb1).trans hbW).trans b3)) ?_
    rintro e a4 W4 hp4
    have out : ∀ (jump : Option Code), KeepsFrom w.heap.size (W2.putObj (w.heap.size + 1) (.loop { mk .ready none with state := .busy })) W4 →
     (Instr.endRound (w.heap.size + 1) jump).run P W4 = .ok (.bool jump.isNone) (W4.putObj (w.heap.size + 1) (.loop (mk (if jump.isNone then .ready else .done) jump))) ∧
     (W4.putObj (w.heap.size + 1) (.loop (mk (if jump.isNone then .ready else .done) jump))).heap[w.heap.size + 1]? = some (.loop (mk (if jump.isNone then .ready else .done) jump)) ∧
     (W4.putObj (w.heap.size + 1) (.loop (mk (if jump.isNone then .ready else .done) jump))).heap[w.heap.size]? = some (.deferred (some [])) ∧
     W4.heap[w.heap.size + 1]? = some (.loop { mk .ready none with state := .busy }) := fun jump k4 => by
     have l4 := k4.same _ _ (by omega) l3 rfl
     have d4 := k4.same _ _ (Nat.le_refl _) d3 rfl
     exact ⟨run_endRound (P := P) jump l4, World.putObj_heap_same (Array.getElem?_eq_some_iff.1 l4).1, (World.putObj_heap_other (by omega)).trans d4, l4⟩
    cases e with
    | normal =>
      obtain ⟨k4, b4, i4⟩ := hp4
      obtain ⟨r5, l5, d5, l4⟩ := out none k4
      exact ⟨_, _, r5, .inl ⟨rfl, ⟨hI.putObj _ i4 (by omega) l4 rfl, l5, d5⟩, (b3.trans b4).trans (Rn.Kd.put _ (nD _ (by omega)) _)⟩⟩
    | ret =>
      obtain ⟨k4, i4⟩ := hp4
      obtain ⟨r5, l5, d5, l4⟩ := out (some .ret) k4
      exact ⟨_, _, r5, .inr ⟨rfl, .ret, (hIx _).putObj _ i4 (by omega) l4 rfl, l5, d5⟩⟩
    | exit id =>
      obtain ⟨k4, i4⟩ := hp4
      obtain ⟨r5, l5, d5, l4⟩ := out (some (.exit id)) k4
      exact ⟨_, _, r5, .inr ⟨rfl, .exit id, (hIx _).putObj _ i4 (by omega) l4 rfl, l5, d5⟩⟩
    | goto t =>
      obtain ⟨k4, i4⟩ := hp4
      obtain ⟨r5, l5, d5, l4⟩ := out (some (.goto t)) k4
      exact ⟨_, _, r5, .inr ⟨rfl, .goto t, (hIx _).putObj _ i4 (by omega) l4 rfl, l5, d5⟩⟩
    | panic ch => exact hp4.elim
    | outgrown => exact hp4.elim
  | exit id => exact hp.elim
  | goto t => exact hp.elim
  | ret => exact hp.elim
  | panic ch => exact hp.elim
  | outgrown => exact hp.elim
 ·
  rintro e W2 ⟨⟨v, rfl⟩, ⟨i2, l2, d2⟩ | ⟨pre, hpre, hne, c, i2, l2, d2⟩⟩
  ·exact ⟨none, _, run_endLoop (P := P) l2 (fun e => by cases e), hdone _ _ (Nat.le_refl _) (hI.putObj _ i2 (by omega) l2 rfl) ((World.putObj_heap_other (by omega)).trans d2)⟩
  ·exact ⟨some c, _, run_endLoop (P := P) l2 (fun e => by cases e), hstop _ c pre _ (Nat.le_refl _) hpre hne ((hIx c).putObj _ i2 (by omega) l2 rfl) ((World.putObj_heap_other (by omega)).trans d2)⟩
variable {ops : Array Oper} {Q : Exit → Act → World → Prop} {md : Region.Mode}
theorem Rn.any_round {l n : Nat} (hL : ¬ LetsOut Q) (hd : Sk.noDefer ops = true) : ∀ (fuel : Nat) (listed : Array Bool) (a : Act) (w : World), wpAny P md ops Q fuel listed a w → wpAnyIn (Fence.wide.inRound l) n P md ops Q fuel listed a w
 | 0, _, _, _, h => h
 | fuel + 1, _, _, _, h => ⟨h.1, fun i hi => wpOpIn_mono (fun _ _ h' => Rn.any_round hL hd fuel _ _ _ h') (Sk.op_round hL hd (h.2 i hi))⟩
theorem Rn.own_own {α : Type} {e : TypeId} {k : Nat} {enc : α → List Value} (B b : Nat) (v : Value) (L : List α) : OwnFrom B fun (_ : Unit) W => Dk.Own e k enc b W v L := fun _ W W' row hs hg hr => by
 refine hs.same fun k hk => hg.block k (hs.lt k hk) fun e => ?_
 obtain ⟨_, ob, ho, hc⟩ := hr k e.symm
 obtain ⟨cs, hcs⟩ := hs.typed k hk
 rw [hcs] at ho
 cases Option.some.inj ho
 cases hc
theorem Rn.Kd.grew {B : Nat} {D : Nat → Prop} {w W W' : World} {row : Option Nat} (h : Rn.Kd D w W) (hD : ∀ b, D b → b < B) (hg : W.grownBy W' row) (hr : ∀ r, row = some r → B ≤ r ∧ ∃ o : Obj, W.heap[r]? = some o ∧ o.isCells = false) : Rn.Kd D w W' :=
 h.trans (Rn.Kd.grown hg fun b e hb => by have := (hr b e).1; have := hD b hb; omega)
theorem Rn.blk_own {W W' : World} {row : Option Nat} {b : Nat} {cs : Array Value} {t : TypeId} {f : Nat × Nat} {B : Nat} (h : W.heap[b]? = some (.cells cs t f)) (hg : W.grownBy W' row) (hr : ∀ r, row = some r → B ≤ r ∧ ∃ o : Obj, W.heap[r]? = some o ∧ o.isCells = false) : W'.heap[b]? = some (.cells cs t f) :=
 (hg.block b (Array.getElem?_eq_some_iff.1 h).1 fun e => by
  obtain ⟨_, o, ho, hc⟩ := hr b e.symm
  rw [h] at ho
  cases Option.some.inj ho
  cases hc).trans h
theorem Rn.kf_grew {α : Type} {e : TypeId} {k : Nat} {enc : α → List Value} {B C : Nat} {W W' : World} {v v' : Value} {M : List α} (hO : Dk.Own e k enc B W v M) (g : Ty.Grew W W' v v') : KeepsFrom C W W' :=
 (KeepsOthers.of_grownBy g.by_ fun j o hj ho => by
  obtain ⟨cs, hc⟩ := hO.typed j (by first | exact hj | exact hj.symm)
  rw [ho] at hc
  cases Option.some.inj hc
  rfl).from C
end
end
section
open Go Go.RowKit Go.Shelf
attribute [local go_sem] Oper.semAt_some
def Mg.ck (b o n m k : Nat) : Option Addr × Nat × Nat := (some ⟨b, o + m * k * 2, none⟩, min m (n - m * k), min m (n - m * k))
def Mg.cks (b o n m j : Nat) : List (Option Addr × Nat × Nat) := (List.range j).map (Mg.ck b o n m)
def Mg.nb (n m : Nat) : Nat := (n + m - 1) / m
theorem Mg.nb_lt {n m k : Nat} (hm : 1 ≤ m) (h : m * k < n) : k < Mg.nb n m := by
 unfold Mg.nb
 have : k + 1 ≤ (n + m - 1) / m := (Nat.le_div_iff_mul_le (by omega)).2 (by rw [Nat.mul_comm, Nat.mul_succ]; omega)
 omega
theorem Mg.nb_le {n m k : Nat} (hm : 1 ≤ m) (h : n ≤ m * k) : Mg.nb n m ≤ k := by
 unfold Mg.nb
 have : (n + m - 1) / m < k + 1 := (Nat.div_lt_iff_lt_mul (by omega)).2 (by rw [Nat.mul_comm, Nat.mul_succ]; omega)
 omega
theorem Mg.cks_next (b o n m j : Nat) : Mg.cks b o n m (j + 1) = Mg.cks b o n m j ++ [Mg.ck b o n m j] := by
 unfold Mg.cks
 rw [List.range_succ, List.map_append]
 rfl
theorem Mg.cks_len (b o n m j : Nat) : (Mg.cks b o n m j).length = j := by unfold Mg.cks; simp
theorem Mg.cks_pre {b o n m : Nat} {i j : Nat} (h : i ≤ j) : Mg.cks b o n m i <+: Mg.cks b o n m j := by
 induction j with
 | zero => obtain rfl : i = 0 := by omega
           exact List.prefix_refl _
 | succ j ih =>
   rcases Nat.lt_or_ge i (j + 1) with h1 | h1
   ·rw [Mg.cks_next]
    exact (ih (by omega)).trans (List.prefix_append _ _)
   ·obtain rfl : i = j + 1 := by omega
    exact List.prefix_refl _
theorem Mg.cks_at {b o n m j : Nat} {pre : List (Option Addr × Nat × Nat)} {x : Option Addr × Nat × Nat} (h : pre ++ [x] <+: Mg.cks b o n m j) : pre.length < j ∧ x = Mg.ck b o n m pre.length := by
 obtain ⟨r, h⟩ := h
 have hl := congrArg List.length h
 rw [Mg.cks_len, List.length_append, List.length_append, List.length_singleton] at hl
 have hp : pre.length < j := by omega
 have hx := congrArg (fun l => l[pre.length]?) h
 rw [List.append_assoc, List.getElem?_append_right (Nat.le_refl _), Nat.sub_self] at hx
 unfold Mg.cks at hx
 rw [List.getElem?_map, List.getElem?_range hp] at hx
 exact ⟨hp, by simpa using hx⟩
set_option maxHeartbeats 1000000 in
set_option maxRecDepth 100000 in
theorem Mg.chunk_c {w : World} (a : Option Addr) (n c m k : Nat) (hm : m = w.heap.size) (hk : 1 ≤ k) :
 Calls Try.prog 28 #[.slice a n c, .int .i64 (k : Int)] w fun e w' => e = .returned (.func (.func 40) #[] #[.pointer (some ⟨m, 0, none⟩), .pointer (some ⟨m + 1, 0, none⟩)]) ∧
  w'.cell? ⟨m, 0, none⟩ = some (.slice a n c) ∧ w'.cell? ⟨m + 1, 0, none⟩ = some (.int .i64 (k : Int)) ∧ Below w.heap.size w w' ∧ w'.heap.size = m + 2 := by
 subst hm
 have HC : Hid (((w.alloc (.cells #[.slice a n c] 25)).alloc (.cells #[.int .i64 (k : Int)] 3)).cell? ⟨w.heap.size, 0, none⟩ = some (.slice a n c) ∧
  ((w.alloc (.cells #[.slice a n c] 25)).alloc (.cells #[.int .i64 (k : Int)] 3)).cell? ⟨w.heap.size + 1, 0, none⟩ = some (.int .i64 (k : Int))) := Lib.hid (by
  refine ⟨?_, ?_⟩
  ·exact (((Below.refl _ (w.alloc (.cells #[.slice a n c] 25))).alloc (Nat.le_refl _) _).cell (p := ⟨w.heap.size, 0, none⟩) (by simp)).trans (Kn.cell_new w _ _ 0 _ rfl)
  ·have := Kn.cell_new (w.alloc (.cells #[.slice a n c] 25)) #[.int .i64 (k : Int)] 3 0 _ rfl
   rwa [World.size_alloc] at this)
 have x1 := HC.out.2
 have hk1 : ¬ (k : Int) < 1 := by omega
 clear hk
 go_enter Try.func28, Try.ntmps28
 go_wp2
 go_ret
 exact ⟨rfl, HC.out.1, HC.out.2, ((Below.refl _ w).alloc (Nat.le_refl _) _).alloc (by simp) _, by simp⟩
set_option maxHeartbeats 4000000 in
set_option maxRecDepth 100000 in
theorem Mg.chunk1_seq {w : World} {D : Nat → Prop} {b o n c bs bn m : Nat} (c1 : w.cell? ⟨bs, 0, none⟩ = some (.slice (some ⟨b, o, none⟩) n c)) (c2 : w.cell? ⟨bn, 0, none⟩ = some (.int .i64 (m : Int))) (h1 : D bs) (h2 : D bn) (hc : n ≤ c) (hn : n ≤ 4398046511104) (hm : 1 ≤ m) (hm2 : m ≤ 9223372036854775807) :
 Rn.Seq Try.prog 40 #[.pointer (some ⟨bs, 0, none⟩), .pointer (some ⟨bn, 0, none⟩)] (fun x args _ => args = #[Bk.sv x]) D (Mg.cks b o n m (Mg.nb n m)) w := by
 intro l J Jx W hW hJ hJx hY h0
 have l1 := World.block_lt_of_cell? w _ c1
 have l2 := World.block_lt_of_cell? w _ c2
 have d1 := (hW.cell (p := ⟨bs, 0, none⟩) l1).trans c1
 have d2 := (hW.cell (p := ⟨bn, 0, none⟩) l2).trans c2
 have HC : Hid (∀ W', Rn.Kd D W W' → W'.cell? ⟨bs, 0, none⟩ = some (.slice (some ⟨b, o, none⟩) n c) ∧ W'.cell? ⟨bn, 0, none⟩ = some (.int .i64 (m : Int))) := Lib.hid fun W' g =>
  ⟨(World.cell?_of_block (g.same bs h1 (World.block_lt_of_cell? W _ d1))).trans d1, (World.cell?_of_block (g.same bn h2 (World.block_lt_of_cell? W _ d2))).trans d2⟩
 have HY := Lib.hid hY
 have HJ0 := Lib.hid h0
 have HJA := Lib.hid hJ
 have HN := Lib.hid (And.intro hc hn)
 have HMM := Lib.hid (And.intro hm hm2)
 clear c1 c2 h1 h2 hW hJ hJx hY h0 l1 l2 d1 d2 hc hn hm hm2
 refine callsIn_of_wp Try.func40 rfl trivial ?_ rfl
 simp only [Try.ntmps40, List.size_toArray, List.length_cons, List.length_nil, Nat.reduceAdd, Nat.reduceSub, Array.replicate_succ, Array.replicate_zero, List.push_toArray, List.append_toArray, List.nil_append, List.cons_append]
 gi_wp2
 gi_loopw [4] (fun at_ wr => ∃ k p : Nat, p = m * k ∧ k ≤ Mg.nb n m ∧ at_ = .int .i64 p ∧ J (Mg.cks b o n m k) wr ∧ Rn.Kd D W wr)
  (fun at_ _ => n - (intOf at_).toNat)
 case atStart => exact ⟨0, 0, rfl, Nat.zero_le _, rfl, HJ0.out, Rn.Kd.below (Below.refl _ _)⟩
 case round =>
  obtain ⟨k, p, hp, hk, rfl, hj, hkd⟩ := hrel
  have HP := Lib.hid (And.intro hp hk)
  have HJ := Lib.hid hj
  have HKD := Lib.hid hkd
  obtain ⟨e1, e2⟩ := HC.out wr hkd
  clear HJ0 hj hkd hp hk
  by_cases hl : p < n
  ·have hpl : (p : Int) < (n : Int) := by omega
   have hp0 : (0 : Int) ≤ (p : Int) := by omega
   have hp7 : (n : Int) ≤ 4398046511104 := by have := HN.out.2; omega
   have hnc : (n : Int) ≤ (c : Int) := by have := HN.out.1; omega
   have HK : Hid (k < Mg.nb n m) := Lib.hid (Mg.nb_lt HMM.out.1 (by rw [← HP.out.1]; exact hl))
   have hpm : (p : Int) + (m : Int) ≤ 9223372036854775807 := by
    rcases Nat.eq_zero_or_pos k with h0 | h0
    ·have := HP.out.1
     rw [h0, Nat.mul_zero] at this
     have := HMM.out.2
     omega
    ·have h1 : m * 1 ≤ m * k := Nat.mul_le_mul_left m h0
     have := HP.out.1
     omega
   have hm0 : (0 : Int) ≤ (m : Int) := by omega
   have HKL := Lib.hid hl
   have HX : Hid (Mg.cks b o n m (k + 1) = Mg.cks b o n m k ++ [Mg.ck b o n m k] ∧ Mg.cks b o n m k ++ [Mg.ck b o n m k] <+: Mg.cks b o n m (Mg.nb n m)) := Lib.hid ⟨Mg.cks_next .., by rw [← Mg.cks_next]; exact Mg.cks_pre HK.out⟩
   have HM : Hid (∃ e : Nat, (e : Int) = min (m : Int) ((n : Int) - p) ∧ Mg.ck b o n m k = (some ⟨b, o + p * 2, none⟩, e, e) ∧ 1 ≤ e ∧ p + e ≤ n ∧ e ≤ m ∧ (p + m ≤ n → e = m) ∧ (n < p + m → e = n - p)) := Lib.hid (by
    have hp1 := HP.out.1
    have := HMM.out.1
    refine ⟨min m (n - p), by omega, by unfold Mg.ck; rw [hp1], by omega, by omega, by omega, by omega, by omega⟩)
   obtain ⟨e, he, hek, he1, hen, he8, heA, heB⟩ := HM.out
   have HEK := Lib.hid hek
   clear hl
   have hY9 : ∀ W3, Below wr.heap.size wr W3 → ∃ fn tmps assign body, (Instr.yield l #[.slice (some ⟨b, o + p * 2, none⟩) e e]).run Try.prog W3 = .ok (.round l fn tmps assign body) W3 ∧ RoundIn Fence.wide 7 Try.prog l fn tmps assign body W3 fun x W' => (x = .returned (.bool true) ∧ J (Mg.cks b o n m (k + 1)) W' ∧ Rn.Kd D W W') ∨ (x = .returned (.bool false) ∧ Jx (Mg.cks b o n m (k + 1)) W') := fun W3 g => by
    have hk3 : Rn.Kd D W W3 := HKD.out.trans (Rn.Kd.below g)
    obtain ⟨fn, tmps, assign, body, hy, hR⟩ := HY.out (Mg.cks b o n m k) (Mg.ck b o n m k) _ W3 (Rn.own_below HJA.out HJ.out g) rfl hk3 HX.out.2
    rw [HEK.out] at hy
    rw [← HX.out.1] at hR
    refine ⟨fn, tmps, assign, body, hy, hR.mono ?_⟩
    rintro x W' (⟨rfl, j3, k3⟩ | ⟨rfl, j3⟩)
    ·exact .inl ⟨rfl, j3, hk3.trans k3⟩
    ·exact .inr ⟨rfl, j3⟩
   have HY9 := Lib.hid hY9
   clear hY9 hek
   by_cases h8 : p + m ≤ n
   ·obtain rfl : e = m := heA h8
    have hm8 : (e : Int) ≤ (n : Int) - (p : Int) := by omega
    have hmA : min (e : Int) ((n - p : Nat) : Int) = (e : Int) := by omega
    have h9 : (p : Int) + (e : Int) ≤ (n : Int) := by omega
    have h10 : (p : Int) + (e : Int) ≤ (c : Int) := by omega
    have hne0 : ¬ e = 0 := by omega
    clear heA heB he h8 he1 hen he8
    gi_wp2
    refine wpIn_wide.2 ?_
    go_quiet (fail)
    have g3 : Below wr.heap.size wr (wr.drewN nq) := Bt.drewN_below _ _
    obtain ⟨f1, f2⟩ := HC.out (wr.drewN nq) (HKD.out.trans (Rn.Kd.below g3))
    obtain ⟨fn, tmps, assign, body, hy, hR⟩ := HY9.out _ g3
    generalize wr.drewN nq = w3 at f1 f2 hy hR ⊢
    clear g3 e1 e2
    gi_wp2
    refine hR.mono ?_
    rintro x W3 (⟨rfl, j3, k3⟩ | ⟨rfl, j3⟩)
    ·have HJ3 := Lib.hid j3
     have HK3 := Lib.hid k3
     obtain ⟨e1, e2⟩ := HC.out W3 k3
     clear j3 k3 hy hR f1 f2
     gi_wp2
     go_roundw
     case rel => exact ⟨k + 1, p + e, by have := HP.out.1; rw [Nat.mul_succ]; omega, HK.out, by simp, HJ3.out, HK3.out⟩
     case measure => (have := HKL.out; have := HMM.out.1; simp [intOf]; omega)
    ·have HJ3 := Lib.hid j3
     clear j3 hy hR f1 f2
     gi_wp2
     refine bodyPost_ret (results_none rfl _ _ _) rfl ?_
     exact ⟨⟨_, rfl⟩, .inr ⟨Mg.cks b o n e (k + 1), Mg.cks_pre HK.out, by rw [HX.out.1]; simp, HJ3.out⟩⟩
   ·obtain rfl : e = n - p := heB (by omega)
    have hm8 : ¬ (m : Int) ≤ (n : Int) - (p : Int) := by omega
    have hmA : min (m : Int) ((n - p : Nat) : Int) = ((n - p : Nat) : Int) := by omega
    have hmC : (p : Int) + ((n - p : Nat) : Int) = (n : Int) := by omega
    have hm9 : (n : Int) - (p : Int) < (m : Int) := by omega
    clear heA heB he h8 he1 hen he8
    gi_wp2
    refine wpIn_wide.2 ?_
    go_quiet (fail)
    have g3 : Below wr.heap.size wr (wr.drewN nq) := Bt.drewN_below _ _
    obtain ⟨f1, f2⟩ := HC.out (wr.drewN nq) (HKD.out.trans (Rn.Kd.below g3))
    obtain ⟨fn, tmps, assign, body, hy, hR⟩ := HY9.out _ g3
    generalize wr.drewN nq = w3 at f1 f2 hy hR ⊢
    clear g3 e1 e2
    gi_wp2
    refine hR.mono ?_
    rintro x W3 (⟨rfl, j3, k3⟩ | ⟨rfl, j3⟩)
    ·have HJ3 := Lib.hid j3
     have HK3 := Lib.hid k3
     obtain ⟨e1, e2⟩ := HC.out W3 k3
     clear j3 k3 hy hR f1 f2
     gi_wp2
     go_roundw
     case rel => exact ⟨k + 1, p + m, by have := HP.out.1; rw [Nat.mul_succ]; omega, HK.out, by simp, HJ3.out, HK3.out⟩
     case measure => (have := HKL.out; have := HMM.out.1; simp [intOf]; omega)
    ·have HJ3 := Lib.hid j3
     clear j3 hy hR f1 f2
     gi_wp2
     refine bodyPost_ret (results_none rfl _ _ _) rfl ?_
     exact ⟨⟨_, rfl⟩, .inr ⟨Mg.cks b o n m (k + 1), Mg.cks_pre HK.out, by rw [HX.out.1]; simp, HJ3.out⟩⟩
  ·obtain rfl : k = Mg.nb n m := Nat.le_antisymm HP.out.2 (Mg.nb_le HMM.out.1 (by rw [← HP.out.1]; omega))
   have hpl : ¬ (p : Int) < (n : Int) := by omega
   clear hl
   gi_wp2
   go_end0
   exact ⟨⟨_, rfl⟩, .inl HJ.out⟩
theorem Mg.ds_src {w : World} {v : Value} {L : List Dd.D} (h : Bk.Ds w v L) (hne : L ≠ []) : ∃ Ys : List Mg.Y, Mg.Rd w Ys L ∧ ∀ W, Below w.heap.size w W → Dk.Src Rn.e2 W v Ys := by
 obtain ⟨R, ⟨a, c, rfl, hr⟩, hv⟩ := h.dr
 rcases hr with hr | ⟨b, o, rfl, hb, hc⟩
 ·exact absurd hr hne
 ·have hat : ∀ (i : Nat) (x : Dd.D), L[i]? = some x → (L.mapIdx fun i d => (d.gone, R i))[i]? = some (x.gone, R i) := fun i x hx => by rw [List.getElem?_mapIdx, hx]; rfl
  have hlen : (L.mapIdx fun i d => (d.gone, R i)).length = L.length := by simp
  refine ⟨L.mapIdx fun i d => (d.gone, R i), ⟨hlen, fun i x hx => ⟨_, hat i x hx, rfl, hv i x hx⟩⟩, fun W g => .inr ⟨⟨b, o, none⟩, c, by rw [hlen], Dk.src_cells Rn.e2_len (by decide) fun i j y hy hj => ?_⟩⟩
  have hi := (List.getElem?_eq_some_iff.1 hy).1
  rw [hlen] at hi
  have hx := List.getElem?_eq_getElem hi
  generalize L[i] = x at hx
  rw [hat i x hx] at hy
  obtain rfl : (x.gone, R i) = y := by simpa using hy
  obtain ⟨c0, c1⟩ := hc i x hx
  match j, hj with
  | 0, _ => exact (g.cell (p := ⟨b, o + i * 2 + 0, none⟩) hb).trans c0
  | 1, _ => exact (g.cell (p := ⟨b, o + i * 2 + 1, none⟩) hb).trans c1
set_option maxHeartbeats 1000000 in
set_option maxRecDepth 100000 in
theorem Mg.dclone_c {w0 w : World} {v : Value} {L : List Dd.D} (h : Bk.Ds w0 v L) (hb : Below w0.heap.size w0 w) (hne : L ≠ []) (hl : L.length ≤ 4398046511104) :
 Calls Try.prog 29 #[v] w fun e w' => ∃ (u : Option Addr × Nat × Nat) (Es : List Mg.Y), e = .returned (Bk.sv u) ∧ Dk.Own 41 2 Rn.e2 w.heap.size w' (Bk.sv u) Es ∧ Mg.Rd w0 Es L ∧ Below w.heap.size w w' := by
 obtain ⟨Ys, hrd, hsrc⟩ := Mg.ds_src h hne
 obtain ⟨a, c, rfl, _, _, h⟩ := h
 obtain ⟨b, o, rfl, _, _⟩ := h.resolve_left hne
 obtain ⟨w1, hw1⟩ : ∃ w1, w1 = w.alloc (.cells #[] 41) := ⟨_, rfl⟩
 have hb1 : Below w.heap.size w w1 := by rw [hw1]; exact (Below.refl _ w).alloc (Nat.le_refl _) _
 have ho : Dk.Own 41 2 Rn.e2 w.heap.size w1 (.slice (some ⟨w.heap.size, 0, none⟩) 0 0) [] :=
  ⟨rfl, .inr ⟨w.heap.size, 0, #[], rfl, Nat.le_refl _, by rw [hw1]; exact heap_alloc_new w _, Nat.le_refl _, by decide, rfl, rfl⟩⟩
 have HO := Lib.hid ho
 have HS := Lib.hid (hsrc w1 (hb.trans (hb1.mono hb.size)))
 have HRD := Lib.hid hrd
 have HL : Hid (w.heap.size ≤ w1.heap.size ∧ Ys.length ≤ 4398046511104) := Lib.hid ⟨hb1.size, by rw [hrd.1]; exact hl⟩
 have HF : Hid (∀ v' w', Ty.Grew w1 w' (.slice (some ⟨w.heap.size, 0, none⟩) 0 0) v' → Below w.heap.size w w') := Lib.hid fun v' w' g => hb1.trans (g.below hb1.size ho.base_le)
 have he : ∀ w : World, (binOp .eql 25 (.slice (some ⟨b, o, none⟩) L.length c) (.slice none 0 0)).run Try.prog w = .ok (.bool false) w := fun _ => rfl
 clear h hrd hsrc ho hl hb1 hb hne
 go_enter Try.func29, Try.ntmps29
 go_wp2_with (
  at_builtin
  rw [← hw1]
  refine Dk.wpList_append 25 _ 32 Try.underlying25 Rn.infoD rfl (by decide) Rn.e2_len Rn.e2_one Ys HO.out HL.out.1 (by have := HL.out.2; simp; omega) (by have := HL.out.2; simp; omega) HS.out _ _ rfl rfl rfl rfl ?_
  intro v' w' h1 h2
  obtain ⟨av, nv, cv, hv⟩ : ∃ a n c, v' = .slice a n c := by
   rcases h1.form with ⟨e, _⟩ | ⟨g, c, e, _⟩
   ·exact ⟨none, 0, 0, e⟩
   ·exact ⟨_, _, c, e⟩
  have H1 := Lib.hid h1
  have H2 := Lib.hid h2
  clear h1 h2
  subst hv)
 go_ret
 exact ⟨(av, nv, cv), Ys, rfl, H1.out, HRD.out, HF.out _ _ H2.out⟩
end
section
open Go Go.RowKit
section
variable {P : Program} {ops : Array Oper} {Q : Exit → Act → World → Prop} {md : Region.Mode}
theorem Rn.any_one {i : Nat} {o : Oper} {fuel : Nat} {listed : Array Bool} {a : Act} {w : World} (hr : Region.ready md ops listed = [i]) (ho : ops[i]? = some o)
 (h : ∀ K' : Act → World → Prop, Shut (∀ a w, wpAny P md ops Q fuel (listed.setIfInBounds i true) a w → K' a w) → if Region.wanted o (yielded ops a.tmps) = true then Oper.wp P o a w K' Q else K' (a.put o.dst undef) w) : wpAny P md ops Q (fuel + 1) listed a w := by
 refine wpAny_all hr (by simp) fun j hj => ?_
 rw [List.mem_singleton] at hj
 subst hj
 exact wpOp_step ho (fun K' hK => h K' hK)
theorem Rn.any_two {i k : Nat} {o o2 : Oper} {fuel : Nat} {listed : Array Bool} {a : Act} {w : World} (hr : Region.ready md ops listed = [i, k]) (ho : ops[i]? = some o) (ho2 : ops[k]? = some o2)
 (h : ∀ K' : Act → World → Prop, Shut (∀ a w, wpAny P md ops Q fuel (listed.setIfInBounds i true) a w → K' a w) → if Region.wanted o (yielded ops a.tmps) = true then Oper.wp P o a w K' Q else K' (a.put o.dst undef) w)
 (h2 : ∀ K' : Act → World → Prop, Shut (∀ a w, wpAny P md ops Q fuel (listed.setIfInBounds k true) a w → K' a w) → if Region.wanted o2 (yielded ops a.tmps) = true then Oper.wp P o2 a w K' Q else K' (a.put o2.dst undef) w) : wpAny P md ops Q (fuel + 1) listed a w := by
 refine wpAny_all hr (by simp) fun j hj => ?_
 simp only [List.mem_cons, List.not_mem_nil, or_false] at hj
 rcases hj with rfl | rfl
 ·exact wpOp_step ho (fun K' hK => h K' hK)
 ·exact wpOp_step ho2 (fun K' hK => h2 K' hK)
theorem Rn.any_region {id l n : Nat} {a : Act} {w : World} (hm : P.follows .mixedOrders = true) (hd : Sk.noDefer ops = true)
 (h : wpAny P .any ops (Sk.Calm Q) ops.size (Array.replicate ops.size false) a w.drew) : (Code.region id ops true).wpIn (Fence.wide.inRound l) n P Q a w :=
 Code.wpIn_mono Sk.Calm.imp (wpIn_region_any hm (Rn.any_round Sk.Calm.shut hd _ _ _ _ h))
end
end
end Go.Proofs.Ytikdcmplihgdcaa
