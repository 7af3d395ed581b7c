import Derived.Test.YtbelkhkllneifaaGreatDoorWEAR
import Derived.Test.YtbelkhkllneifaaGreatDoorWEAL
import Derived.RangeFuncNested
import Derived.RangeFuncBound
import Derived.RangeFuncLeaves
import Derived.Lib.QuietBelow
import Derived.Shelf.Abstract
import Derived.Shelf.RegionOpen
import Derived.OwnWalkIn
import Derived.TacticsInMore
import Derived.LoopNIn
import Derived.LoopIn
import Derived.Test.YtbelkhkllneifaaGreatDoorWEAK
import Derived.Test.YtbelkhkllneifaaGreatDoorWEAJ
import Derived.BigQuiet
import Derived.Deep.OwnRows
import Derived.Test.YtbelkhkllneifaaGreatDoorWEAD
import Derived.Test.YtbelkhkllneifaaGreatDoorWEAI
import Derived.Deep.RegionLaw
import Derived.Deep.RegionLawGrows
import Derived.StillTailTactics
import Derived.Deep.RegionHeld3
namespace Go.Proofs.YtbelkhkllneifaaGreatDoor
section
open Go Go.RowKit
structure Rn.Kd (D : Nat → Prop) (W W' : World) : Prop where
 os : W'.os = W.os
 tape : W'.tape = W.tape
 output : W'.output = W.output
 size : W.heap.size ≤ W'.heap.size
 same : ∀ b, D b → b < W.heap.size → W'.heap[b]? = W.heap[b]?
theorem Rn.Kd.trans {D : Nat → Prop} {X Y Z : World} (h : Rn.Kd D X Y) (g : Rn.Kd D Y Z) : Rn.Kd D X Z :=
 ⟨g.os.trans h.os, g.tape.trans h.tape, g.output.trans h.output, Nat.le_trans h.size g.size, fun b hb hx => (g.same b hb (Nat.lt_of_lt_of_le hx h.size)).trans (h.same b hb hx)⟩
theorem Rn.Kd.below {D : Nat → Prop} {W W' : World} (h : Below W.heap.size W W') : Rn.Kd D W W' := ⟨h.os, h.tape, h.output, h.size, fun b _ hb => h.block b hb⟩
theorem Rn.Kd.set {D : Nat → Prop} (W : World) {a : Addr} (ha : ¬ D a.block) (v : Value) : Rn.Kd D W (W.setCell a v) :=
 ⟨rfl, rfl, rfl, by simp [World.setCell], fun b hb _ => Below.heap_setCell _ _ _ _ fun e => by subst e; exact ha hb⟩
theorem Rn.Kd.put {D : Nat → Prop} (W : World) {l : Nat} (hl : ¬ D l) (o : Obj) : Rn.Kd D W (W.putObj l o) :=
 ⟨rfl, rfl, rfl, by simp, fun b hb _ => World.putObj_heap_other fun e => by subst e; exact hl hb⟩
theorem Rn.Kd.grown {D : Nat → Prop} {W W' : World} {r : Option Nat} (h : W.grownBy W' r) (hr : ∀ b, r = some b → ¬ D b) : Rn.Kd D W W' :=
 ⟨h.os, h.tape, h.output, h.size, fun b hb hx => h.block b hx fun e => hr b e.symm hb⟩
theorem Rn.Kd.low {D : Nat → Prop} {W W' : World} {m : Nat} (h : Rn.Kd D W W') (hD : ∀ b, b < m → D b) (hm : m ≤ W.heap.size) : Below m W W' :=
 ⟨h.os, h.tape, h.output, h.size, fun b hb => h.same b (hD b hb) (Nat.lt_of_lt_of_le hb hm)⟩
theorem Rn.own_below {β : Type} {B : Nat} {J : β → World → Prop} (hJ : OwnFrom B J) {s : β} {W W' : World} (h : J s W) (g : Below W.heap.size W W') : J s W' :=
 hJ s W W' none h ⟨g.os, g.tape, g.output, g.size, fun k hk _ => g.block k hk⟩ fun r e => by cases e
theorem Rn.kf_below {B : Nat} {W W' : World} (h : Below W.heap.size W W') : KeepsFrom B W W' :=
 ⟨h.size, fun k _ _ hk _ => (h.block k (Array.getElem?_eq_some_iff.1 hk).1).trans hk⟩
def Rn.Seq {α : Type} (P : Program) (gf : FuncId) (lb : Array Value) (En : α → Array Value → World → Prop) (D : Nat → Prop) (xs : List α) (w : World) : Prop :=
 ∀ (l : Nat) (J Jx : List α → World → Prop) (W : World), Below w.heap.size w W → OwnFrom W.heap.size J → OwnFrom W.heap.size Jx →
   (∀ pre x args W1, J pre W1 → En x args W1 → Rn.Kd D W W1 → pre ++ [x] <+: xs → YieldAt Fence.wide 7 P l args W1 fun e W' =>
    (e = .returned (.bool true) ∧ J (pre ++ [x]) W' ∧ Rn.Kd D W1 W') ∨ (e = .returned (.bool false) ∧ Jx (pre ++ [x]) W')) →
   J [] W →
   CallsIn Fence.wide 8 P gf (#[.func (.yield l) #[] #[]] ++ lb) W fun e W' => (∃ v, e = .returned v) ∧ (J xs W' ∨ ∃ pre, pre <+: xs ∧ pre ≠ [] ∧ Jx pre W')
def Rn.left {α : Type} (B : Nat) (D : Nat → Prop) (I : List α → World → Prop) (Ix : Code → List α → World → Prop) (xs : List α) (W : World) : Exit → Act → World → Prop
 | .normal, _, W' => KeepsFrom B W W' ∧ Rn.Kd D W W' ∧ I xs W'
 | .ret, _, W' => KeepsFrom B W W' ∧ Ix .ret xs W'
 | .exit id, _, W' => KeepsFrom B W W' ∧ Ix (.exit id) xs W'
 | .goto t, _, W' => KeepsFrom B W W' ∧ Ix (.goto t) xs W'
 | .panic _, _, _ => False
 | .outgrown, _, _ => False
theorem Rn.own_put {B : Nat} {I : World → Prop} (h : OwnFrom B fun (_ : Unit) W => I W) {W : World} {l : Nat} {o : Obj} (o' : Obj) (hs : I W) (hB : B ≤ l) (hl : W.heap[l]? = some o) (ho : o.isCells = false) : I (W.putObj l o') :=
 OwnFrom.putObj (I := fun (_ : Unit) W => I W) (s := ()) h o' hs hB hl ho
section
variable {P : Program}
theorem Rn.range_w {α : Type} {g : Operand} {ps : Array Tmp} {assign body : Code} {Q : Exit → Act → World → Prop} {a : Act} {w : World} {gf : Nat} {lb : Array Value}
 (hg : a.eval g = .func (.func gf) #[] lb) (eg : ∀ args w, (callFunc gf args).run P w = .ok (.enter gf args) w)
 {En : α → Array Value → World → Prop} {D : Nat → Prop} {xs : List α} {w0 : World} (hseq : Rn.Seq P gf lb En D xs w0) (hb0 : Below w0.heap.size w0 w) (hD : ∀ b, D b → b < w.heap.size)
 (hps : ∀ x args W, En x args W → args.size = ps.size)
 (I : List α → World → Prop) (Ix : Code → List α → World → Prop) (hI : OwnFrom w.heap.size I) (hIx : ∀ c, OwnFrom w.heap.size (Ix c)) (h0 : I [] w)
 (Ax : List α → α → Act → World → Prop) (hAx : ∀ pre x a', OwnFrom w.heap.size fun (_ : Unit) W => Ax pre x a' W)
 (hassign : ∀ l pre x args W, I pre W → En x args W → pre ++ [x] <+: xs → Rn.Kd D w W →
  assign.wpIn (Fence.wide.inRound l) 7 P (Exit.then (fun a' W' => Below W.heap.size W W' ∧ Ax pre x a' W') (fun _ _ _ => False)) { tmps := (ps.zip args).foldl (fun t (p, v) => t.setIfInBounds p v) a.tmps, defers := [] } W)
 (hbody : ∀ l pre x a' W, w.heap.size ≤ l → (∃ r, W.heap[l]? = some (.loop r)) → Ax pre x a' W → pre ++ [x] <+: xs → Rn.Kd D w W → body.wpIn (Fence.wide.inRound l) 7 P (Rn.left w.heap.size D I Ix (pre ++ [x]) W) a' W)
 (hdone : ∀ N W, w.heap.size ≤ N → I xs W → W.heap[N]? = some (.deferred (some [])) → Q .normal { a with defers := { target := .collected N, args := #[] } :: a.defers } W)
 (hstop : ∀ N c pre W, w.heap.size ≤ N → pre <+: xs → pre ≠ [] → Ix c pre W → W.heap[N]? = some (.deferred (some [])) → c.wpIn Fence.wide 9 P Q { a with defers := { target := .collected N, args := #[] } :: a.defers } W) :
 (Code.rangeFunc g ps assign body).wpIn Fence.wide 9 P Q a w := by
 refine wpIn_rangeFunc fun fn hfn => ?_
 let mk : LoopState → Option Code → Loop := fun st pe => { state := st, pending := pe, fn, tmps := a.tmps, params := ps, assign, body, defers := w.heap.size }
 obtain ⟨W1, hW1⟩ : ∃ W1, W1 = (w.alloc (.deferred (some []))).alloc (.loop (mk .ready none)) := ⟨_, rfl⟩
 have hsz : W1.heap.size = w.heap.size + 2 := by rw [hW1]; simp
 have hlo : W1.heap[w.heap.size + 1]? = some (.loop (mk .ready none)) := by
  have := World.alloc_heap_new (w.alloc (.deferred (some []))) (.loop (mk .ready none))
  rw [World.size_alloc] at this
  rw [hW1]
  exact this
 have hde : W1.heap[w.heap.size]? = some (.deferred (some [])) := by
  rw [hW1]
  exact (Below.heap_alloc _ _ _ (by simp)).trans (World.alloc_heap_new w _)
 have hI1 : I [] W1 := by rw [hW1]; exact hI.alloc _ (hI.alloc _ h0)
 have hb1 : Below w.heap.size w W1 := by rw [hW1]; exact ((Below.refl _ w).alloc (Nat.le_refl _) _).alloc (by simp) _
 have far : ∀ {A B : World} {row : Option Nat} {k : Nat}, A.grownBy B row → (∀ r, row = some r → W1.heap.size ≤ r ∧ ∃ o : Obj, A.heap[r]? = some o ∧ o.isCells = false) → k < A.heap.size → k < w.heap.size + 2 → B.heap[k]? = A.heap[k]? := fun hg hr hk h2 =>
  hg.block _ hk fun e => by have := (hr _ e.symm).1; omega
 have nD : ∀ k, w.heap.size ≤ k → ¬ D k := fun k hk hd => by have := hD k hd; omega
 refine ⟨w.heap.size + 1, [{ target := .collected w.heap.size, args := #[] }], W1, { target := .fn (.func gf) lb, args := #[.func (.yield (w.heap.size + 1)) #[] #[]] }, W1, gf,
  #[.func (.yield (w.heap.size + 1)) #[] #[]] ++ lb, W1, by rw [hW1]; exact run_enterLoop_outer _ _ _ _ _, ?_, ?_, ?_, fun _ => by omega, ?_⟩
 ·simp only [resolve, hg]
  simp [go_sem]
 ·intro f' hf'
  exact trivial
 ·simp [invoke, go_sem, eg]
 refine (hseq (w.heap.size + 1) (fun s W => I s W ∧ W.heap[w.heap.size + 1]? = some (.loop (mk .ready none)) ∧ W.heap[w.heap.size]? = some (.deferred (some [])))
  (fun s W => ∃ c, Ix c s W ∧ W.heap[w.heap.size + 1]? = some (.loop (mk .done (some c))) ∧ W.heap[w.heap.size]? = some (.deferred (some []))) W1 (hb0.trans (hb1.mono hb0.size)) ?_ ?_ ?_ ⟨hI1, hlo, hde⟩).mono ?_
 ·rintro s A B row ⟨h1, h2, h3⟩ hgr hr
  have hA := (Array.getElem?_eq_some_iff.1 h2).1
  exact ⟨hI s A B row h1 hgr fun r e => ⟨by have := (hr r e).1; omega, (hr r e).2⟩, (far hgr hr hA (by omega)).trans h2, (far hgr hr (by omega) (by omega)).trans h3⟩
 ·rintro s A B row ⟨c, h1, h2, h3⟩ hgr hr
  have hA := (Array.getElem?_eq_some_iff.1 h2).1
  exact ⟨c, hIx c s A B row h1 hgr fun r e => ⟨by have := (hr r e).1; omega, (hr r e).2⟩, (far hgr hr hA (by omega)).trans h2, (far hgr hr (by omega) (by omega)).trans h3⟩
 ·
  rintro pre x args W ⟨h1, h2, h3⟩ he hbW hpx
  refine ⟨fn, _, assign, body, run_yield (P := P) h2 (hps x args W he), roundIn_of_wpIn hfn (wpIn_mono (hassign (w.heap.size + 1) pre x args W h1 he hpx ((Rn.Kd.below hb1).trans hbW)) ?_)⟩
  have hlW := (Array.getElem?_eq_some_iff.1 h2).1
  rintro e a2 W2 hp
  cases e with
  | normal =>
    obtain ⟨g2, x2⟩ := hp
    have l2 := (g2.block _ hlW).trans h2
    have d2 := (g2.block _ (by omega)).trans h3
    have hlt := (Array.getElem?_eq_some_iff.1 l2).1
    refine ⟨_, run_beginRound l2 rfl, ?_⟩
    have l3 : (W2.putObj (w.heap.size + 1) (.loop { mk .ready none with state := .busy })).heap[w.heap.size + 1]? = some (.loop { mk .ready none with state := .busy }) := World.putObj_heap_same hlt
    have d3 : (W2.putObj (w.heap.size + 1) (.loop { mk .ready none with state := .busy })).heap[w.heap.size]? = some (.deferred (some [])) := (World.putObj_heap_other (by omega)).trans d2
    have b3 : Rn.Kd D W (W2.putObj (w.heap.size + 1) (.loop { mk .ready none with state := .busy })) := (Rn.Kd.below g2).trans (Rn.Kd.put _ (nD _ (by omega)) _)
    refine wpIn_mono (hbody (w.heap.size + 1) pre x a2 _ (by omega) ⟨_, l3⟩ (Rn.own_put (hAx pre x a2) _ x2 (by omega) l2 rfl) hpx (((Rn.Kd.below hb1).trans hbW).trans b3)) ?_
    rintro e a4 W4 hp4
    have out : ∀ (jump : Option Code), KeepsFrom w.heap.size (W2.putObj (w.heap.size + 1) (.loop { mk .ready none with state := .busy })) W4 →
     (Instr.endRound (w.heap.size + 1) jump).run P W4 = .ok (.bool jump.isNone) (W4.putObj (w.heap.size + 1) (.loop (mk (if jump.isNone then .ready else .done) jump))) ∧
     (W4.putObj (w.heap.size + 1) (.loop (mk (if jump.isNone then .ready else .done) jump))).heap[w.heap.size + 1]? = some (.loop (mk (if jump.isNone then .ready else .done) jump)) ∧
     (W4.putObj (w.heap.size + 1) (.loop (mk (if jump.isNone then .ready else .done) jump))).heap[w.heap.size]? = some (.deferred (some [])) ∧
     W4.heap[w.heap.size + 1]? = some (.loop { mk .ready none with state := .busy }) := fun jump k4 => by
     have l4 := k4.same _ _ (by omega) l3 rfl
     have d4 := k4.same _ _ (Nat.le_refl _) d3 rfl
     exact ⟨run_endRound (P := P) jump l4, World.putObj_heap_same (Array.getElem?_eq_some_iff.1 l4).1, (World.putObj_heap_other (by omega)).trans d4, l4⟩
    cases e with
    | normal =>
      obtain ⟨k4, b4, i4⟩ := hp4
      obtain ⟨r5, l5, d5, l4⟩ := out none k4
      exact ⟨_, _, r5, .inl ⟨rfl, ⟨hI.putObj _ i4 (by omega) l4 rfl, l5, d5⟩, (b3.trans b4).trans (Rn.Kd.put _ (nD _ (by omega)) _)⟩⟩
    | ret =>
      obtain ⟨k4, i4⟩ := hp4
      obtain ⟨r5, l5, d5, l4⟩ := out (some .ret) k4
      exact ⟨_, _, r5, .inr ⟨rfl, .ret, (hIx _).putObj _ i4 (by omega) l4 rfl, l5, d5⟩⟩
    | exit id =>
      obtain ⟨k4, i4⟩ := hp4
      obtain ⟨r5, l5, d5, l4⟩ := out (some (.exit id)) k4
      exact ⟨_, _, r5, .inr ⟨rfl, .exit id, (hIx _).putObj _ i4 (by omega) l4 rfl, l5, d5⟩⟩
    | goto t =>
      obtain ⟨k4, i4⟩ := hp4
      obtain ⟨r5, l5, d5, l4⟩ := out (some (.goto t)) k4
      exact ⟨_, _, r5, .inr ⟨rfl, .goto t, (hIx _).putObj _ i4 (by omega) l4 rfl, l5, d5⟩⟩
    | panic ch => exact hp4.elim
    | outgrown => exact hp4.elim
  | exit id => exact hp.elim
  | goto t => exact hp.elim
  | ret => exact hp.elim
  | panic ch => exact hp.elim
  | outgrown => exact hp.elim
 ·
  rintro e W2 ⟨⟨v, rfl⟩, ⟨i2, l2, d2⟩ | ⟨pre, hpre, hne, c, i2, l2, d2⟩⟩
  ·exact ⟨none, _, run_endLoop (P := P) l2 (fun e => by cases e), hdone _ _ (Nat.le_refl _) (hI.putObj _ i2 (by omega) l2 rfl) ((World.putObj_heap_other (by omega)).trans d2)⟩
  ·exact ⟨some c, _, run_endLoop (P := P) l2 (fun e => by cases e), hstop _ c pre _ (Nat.le_refl _) hpre hne ((hIx c).putObj _ i2 (by omega) l2 rfl) ((World.putObj_heap_other (by omega)).trans d2)⟩
variable {ops : Array Oper} {Q : Exit → Act → World → Prop} {md : Region.Mode}
theorem Rn.any_round {l n : Nat} (hL : ¬ LetsOut Q) (hd : Sk.noDefer ops = true) : ∀ (fuel : Nat) (listed : Array Bool) (a : Act) (w : World), wpAny P md ops Q fuel listed a w → wpAnyIn (Fence.wide.inRound l) n P md ops Q fuel listed a w
 | 0, _, _, _, h => h
 | fuel + 1, _, _, _, h => ⟨h.1, fun i hi => wpOpIn_mono (fun _ _ h' => Rn.any_round hL hd fuel _ _ _ h') (Sk.op_round hL hd (h.2 i hi))⟩
theorem Rn.quiet_round {id l n : Nat} {a : Act} {w : World} {lst : List Oper} (hm : P.follows .mixedOrders = true) (hd : Sk.noDefer lst.toArray = true) (hB : Region.lexB .any lst.toArray = true)
 (h : wpQuiet P lst.toArray (fun w' => ∃ p : Regrown, w' = Sort.grow (redrawn w p.d) p.os) (fun a' => ∀ w', (∃ p : Regrown, w' = Sort.grow (redrawn w p.d) p.os) → Q .normal a' w') lst a) : (Code.region id lst.toArray true).wpIn (Fence.wide.inRound l) n P Q a w := by
 simp only [Region.lexB, Bool.and_eq_true] at hB
 refine Code.wpIn_mono Sk.Calm.imp (wpIn_region_any hm (Rn.any_round Sk.Calm.shut hd _ _ _ _ (wpAny_of_quiet (C := fun w' => ∃ p : Regrown, w' = Sort.grow (redrawn w p.d) p.os) (Q := fun a' => ∀ w', (∃ p : Regrown, w' = Sort.grow (redrawn w p.d) p.os) → Q .normal a' w') (fun _ w' hw' h => Sk.Calm.normal (h w' hw')) _ _ _ _ ⟨⟨w.drawn + 1, #[]⟩, by rw [Sort.grow_empty]; rfl⟩ ?_)))
 have := wpAnyQ_lex (C := fun w' => ∃ p : Regrown, w' = Sort.grow (redrawn w p.d) p.os) (md := .any) hB.1 lst.toArray.toList 0 (Array.replicate lst.toArray.size false) a (by simp) (by simpa using hB.2) h
 simpa using this
theorem Rn.list_round {l n : Nat} (hL : ¬ LetsOut Q) : ∀ (lst : List Oper) (a : Act) (w : World), (∀ o ∈ lst, ∀ c, o.op ≠ .defer c) → wpList P ops Q lst a w → wpListIn (Fence.wide.inRound l) n P ops Q lst a w
 | [], _, _, _, h => h
 | o :: rest, a, w, hd, h => by
   have hr : ∀ a' w', wpList P ops Q rest a' w' → wpListIn (Fence.wide.inRound l) n P ops Q rest a' w' := fun a' w' h' => Rn.list_round hL rest a' w' (fun x hx => hd x (List.mem_cons_of_mem _ hx)) h'
   unfold wpList at h
   unfold wpListIn
   split
   ·rename_i hw
    simp only [hw, if_true] at h
    rcases h with h | ⟨_, h⟩
    case inr => exact absurd h hL
    refine Oper.wpIn_mono (fun a' w' h' => hr a' w' h') ?_
    refine ⟨fun _ _ => trivial, ?_⟩
    rw [Oper.semAt_eq _ _ _ (hd o List.mem_cons_self)]
    unfold Oper.wp at h
    generalize (execOp a.eval o).run P w = r at h ⊢
    cases r with
    | ok x w' =>
      cases x with
      | value v => exact h
      | skip => exact h
      | defer d => exact h
      | enter f args => exact ⟨fun e => (by cases e), CallsIn.inRound l (callsIn_wide.2 h)⟩
      | row row args =>
        refine ⟨fun e => (by cases e), fun c cs _ => ?_⟩
        obtain ⟨v, w'', hr', hs⟩ := h c cs
        exact ⟨v, w'', hr', stepsIn_wide.2 hs⟩
      | _ => exact (h : False).elim
    | halt x w' =>
      cases x with
      | panic v => exact h
      | _ => exact (h : False).elim
   ·rename_i hw
    simp only [hw] at h
    exact ⟨fun _ _ => trivial, hr _ _ h⟩
theorem Rn.list_region {id l n : Nat} {lst : List Oper} {a : Act} {w : World} (hd : Sk.noDefer lst.toArray = true) (h : wpList P lst.toArray (Sk.Calm Q) lst a w) : (Code.region id lst.toArray false).wpIn (Fence.wide.inRound l) n P Q a w :=
 Code.wpIn_mono Sk.Calm.imp (wpIn_region_lit (Rn.list_round Sk.Calm.shut lst a w (fun o ho => by
  obtain ⟨i, hi, rfl⟩ := List.getElem_of_mem ho
  exact Sk.noDefer_spec hd (i := i) (by simp [hi])) h))
theorem Rn.own_own {α : Type} {e : TypeId} {k : Nat} {enc : α → List Value} (B b : Nat) (v : Value) (L : List α) : OwnFrom B fun (_ : Unit) W => Dk.Own e k enc b W v L := fun _ W W' row hs hg hr => by
 refine hs.same fun k hk => hg.block k (hs.lt k hk) fun e => ?_
 obtain ⟨_, ob, ho, hc⟩ := hr k e.symm
 obtain ⟨cs, hcs⟩ := hs.typed k hk
 rw [hcs] at ho
 cases Option.some.inj ho
 cases hc
theorem Rn.Kd.grew {B : Nat} {D : Nat → Prop} {w W W' : World} {row : Option Nat} (h : Rn.Kd D w W) (hD : ∀ b, D b → b < B) (hg : W.grownBy W' row) (hr : ∀ r, row = some r → B ≤ r ∧ ∃ o : Obj, W.heap[r]? = some o ∧ o.isCells = false) : Rn.Kd D w W' :=
 h.trans (Rn.Kd.grown hg fun b e hb => by have := (hr b e).1; have := hD b hb; omega)
theorem Rn.blk_own {W W' : World} {row : Option Nat} {b : Nat} {cs : Array Value} {t : TypeId} {f : Nat × Nat} {B : Nat} (h : W.heap[b]? = some (.cells cs t f)) (hg : W.grownBy W' row) (hr : ∀ r, row = some r → B ≤ r ∧ ∃ o : Obj, W.heap[r]? = some o ∧ o.isCells = false) : W'.heap[b]? = some (.cells cs t f) :=
 (hg.block b (Array.getElem?_eq_some_iff.1 h).1 fun e => by
  obtain ⟨_, o, ho, hc⟩ := hr b e.symm
  rw [h] at ho
  cases Option.some.inj ho
  cases hc).trans h
theorem Rn.kf_grew {α : Type} {e : TypeId} {k : Nat} {enc : α → List Value} {B C : Nat} {W W' : World} {v v' : Value} {M : List α} (hO : Dk.Own e k enc B W v M) (g : Ty.Grew W W' v v') : KeepsFrom C W W' :=
 (KeepsOthers.of_grownBy g.by_ fun j o hj ho => by
  obtain ⟨cs, hc⟩ := hO.typed j (by first | exact hj | exact hj.symm)
  rw [ho] at hc
  cases Option.some.inj hc
  rfl).from C
end
end
section
open Go Go.RowKit Go.Shelf
attribute [local go_sem] Oper.semAt_some
def Rn.ExD (w : World) (p : Nat) (r : Kn.R) (a : Zn.As) (e : Ending) (w' : World) : Prop := ∃ m, m = w.heap.size ∧ e = .returned (.func (.func 82) #[] #[.pointer (some ⟨m, 0, none⟩), .pointer (some ⟨m + 1, 0, none⟩), .pointer (some ⟨m + 2, 0, none⟩)]) ∧
 w'.cell? ⟨m, 0, none⟩ = some (.pointer (some ⟨p, 0, none⟩)) ∧ Kn.RAt w' (m + 1) r ∧ Zn.ABlk w' (m + 2) a ∧ Below w.heap.size w w' ∧ w'.heap.size = m + 3
set_option maxHeartbeats 2000000 in
set_option maxRecDepth 100000 in
theorem Rn.examined_c {w : World} (p : Nat) (r : Kn.R) (a : Zn.As) :
 Calls Tryz.prog 50 #[.pointer (some ⟨p, 0, none⟩), r.val, a.val] w (Rn.ExD w p r a) := by
 obtain ⟨w0, hw0⟩ : ∃ w0, w0 = w.alloc (.cells #[.pointer (some ⟨p, 0, none⟩)] 30) := ⟨_, rfl⟩
 have hb0 : Below w.heap.size w w0 := by rw [hw0]; exact (Below.refl _ w).alloc (Nat.le_refl _) _
 have hs0 : w0.heap.size = w.heap.size + 1 := by rw [hw0]; exact World.size_alloc ..
 obtain ⟨hR, hA⟩ := Rn.boxedL w0 r a 43 54
 have hB := Kn.box2 w0 (.cells #[.bool r.from_, .bool r.til, .bool r.lo.null, .int .i64 r.lo.n, .string r.lo.s, .bool r.hi.null, .int .i64 r.hi.n, .string r.hi.s] 43) (.cells #[.int .i64 a.op, .int .i64 a.col, .bool a.v.null, .int .i64 a.v.n, .string a.v.s] 54)
 have c0 : w0.cell? ⟨w.heap.size, 0, none⟩ = some (.pointer (some ⟨p, 0, none⟩)) := by rw [hw0]; exact Kn.cell_new w _ _ 0 _ rfl
 have HE : Hid (Rn.ExD w p r a (.returned (.func (.func 82) #[] #[.pointer (some ⟨w.heap.size, 0, none⟩), .pointer (some ⟨w.heap.size + 1, 0, none⟩), .pointer (some ⟨w.heap.size + 2, 0, none⟩)])) ((w0.alloc (.cells #[.bool r.from_, .bool r.til, .bool r.lo.null, .int .i64 r.lo.n, .string r.lo.s, .bool r.hi.null, .int .i64 r.hi.n, .string r.hi.s] 43)).alloc (.cells #[.int .i64 a.op, .int .i64 a.col, .bool a.v.null, .int .i64 a.v.n, .string a.v.s] 54))) := Lib.hid (by
  rw [hs0] at hR hA
  exact ⟨_, rfl, rfl, (hB.cell (p := ⟨w.heap.size, 0, none⟩) (by show w.heap.size < w0.heap.size; omega)).trans c0, hR, hA, hb0.trans (hB.mono hb0.size), by simp [hs0]⟩)
 subst hw0
 generalize Rn.ExD w p r a = post at HE ⊢
 clear hb0 hs0 hR hA hB c0
 unfold Kn.R.val Zn.As.val
 go_enter Tryz.func50, Tryz.ntmps50
 go_wp2
 first | exact HE.out | (go_ret; exact HE.out)
end
section
open Go.RowKit
structure Sk.Off (S : Nat → Prop) (w w' : World) : Prop where
 os : w'.os = w.os
 tape : w'.tape = w.tape
 output : w'.output = w.output
 size : w.heap.size ≤ w'.heap.size
 block : ∀ k, k < w.heap.size → ¬ S k → w'.heap[k]? = w.heap[k]?
def Sk.More (S : Nat → Prop) (w w' : World) (b : Nat) : Prop := S b ∨ (w.heap.size ≤ b ∧ b < w'.heap.size)
theorem Sk.Off.refl (S : Nat → Prop) (w : World) : Sk.Off S w w := ⟨rfl, rfl, rfl, Nat.le_refl _, fun _ _ _ => rfl⟩
theorem Sk.Off.below {S : Nat → Prop} {w w' : World} (h : Sk.Off S w w') {B : Nat} (hB : B ≤ w.heap.size) (hS : ∀ b, S b → B ≤ b) : Below B w w' :=
 ⟨h.os, h.tape, h.output, h.size, fun k hk => h.block k (by omega) (fun hs => by have := hS k hs; omega)⟩
theorem Sk.Off.same {S : Nat → Prop} {w w1 w2 : World} (h : Sk.Off S w w1) (g : Sk.Off S w1 w2) : Sk.Off S w w2 :=
 ⟨g.os.trans h.os, g.tape.trans h.tape, g.output.trans h.output, Nat.le_trans h.size g.size, fun k hk hn => (g.block k (Nat.lt_of_lt_of_le hk h.size) hn).trans (h.block k hk hn)⟩
def Sk.Row (B : Nat) (w : World) (v : Value) (l : List Kn.V) : Prop := ∃ a c, v = .slice a l.length c ∧ l.length ≤ 9223372036854775807 ∧ (∀ x ∈ l, Kn.Z x) ∧ (l = [] ∨ ∃ b o, a = some ⟨b, o, none⟩ ∧ b < B ∧ b < w.heap.size ∧ ∀ i x, l[i]? = some x → Kn.At w b (o + i * 3) x)
theorem Sk.At_below {B : Nat} {w w' : World} {b o : Nat} {v : Kn.V} (h : Kn.At w b o v) (hb : b < B) (g : Below B w w') : Kn.At w' b o v :=
 ⟨(g.cell (p := ⟨b, o, none⟩) hb).trans h.c0, (g.cell (p := ⟨b, o + 1, none⟩) hb).trans h.c1, (g.cell (p := ⟨b, o + 2, none⟩) hb).trans h.c2⟩
theorem Sk.Row.below {B : Nat} {w w' : World} {v : Value} {l : List Kn.V} (h : Sk.Row B w v l) (g : Below B w w') : Sk.Row B w' v l := by
 obtain ⟨a, c, hv, hm, hz, h⟩ := h
 refine ⟨a, c, hv, hm, hz, ?_⟩
 rcases h with h | ⟨b, o, ha, hb, hl, h⟩
 ·exact .inl h
 ·exact .inr ⟨b, o, ha, hb, Nat.lt_of_lt_of_le hl g.size, fun i x hx => Sk.At_below (h i x hx) hb g⟩
theorem Sk.Row.vals {B : Nat} {w : World} {v : Value} {l : List Kn.V} (h : Sk.Row B w v l) : Kn.Vals w v l := by
 obtain ⟨a, c, hv, hm, _, h⟩ := h
 refine ⟨a, c, hv, ?_⟩
 rcases h with h | ⟨b, o, ha, _, hl, h⟩
 ·exact .inl h
 ·exact .inr ⟨b, o, ha, hl, hm, h⟩
structure Sk.E where
 gone : Bool
 rv : Value
 row : List Kn.V
def Sk.E.enc (x : Sk.E) : List Value := [.bool x.gone, x.rv]
def Sk.E.d (x : Sk.E) : Dd.D := ⟨x.gone, x.row⟩
def Sk.kd (d : Dd.D) : Kn.V := d.row.headD ⟨true, 0, ⟨#[]⟩⟩
def Sk.ke (x : Sk.E) : Kn.V := Sk.kd x.d
structure Sk.Cell (w : World) (g i : Nat) (x : Sk.E) (rb ro rn rc : Nat) : Prop where
 c : w.cell? ⟨g, i * 2 + 1, none⟩ = some (.slice (some ⟨rb, ro, none⟩) rn rc)
 c0 : w.cell? ⟨g, i * 2, none⟩ = some (.bool x.gone)
 k : Kn.At w rb ro (Sk.ke x)
 pos : 0 < rn
 rv : x.rv = .slice (some ⟨rb, ro, none⟩) rn rc
end
section
open Go Go.RowKit
structure Sk.Nd where
 b : Nat
 gone : Bool
 rv : Value
 row : List Kn.V
 num : Nat
 h : Nat
def Sk.Nd.d (x : Sk.Nd) : Dd.D := ⟨x.gone, x.row⟩
def Sk.kn (x : Sk.Nd) : Kn.V := Sk.kd x.d
def Sk.Nd.up (x : Sk.Nd) (i : Nat) : Sk.Nd := { x with h := i }
def Sk.pt (o : Option Nat) : Value := .pointer (o.map fun b => ⟨b, 0, none⟩)
def Sk.lnk (i : Nat) : List Sk.Nd → Option Nat
 | [] => none
 | x :: r => if i < x.h then some x.b else Sk.lnk i r
def Sk.Nd.f (x : Sk.Nd) (r : List Sk.Nd) (j : Nat) : Value :=
 if j = 0 then .bool x.gone else if j = 1 then x.rv else if j = 2 then .int .i64 (x.num : Int) else if j - 3 < x.h then Sk.pt (Sk.lnk (j - 3) r) else .pointer none
def Sk.hf (st c b : Value) (N : List Sk.Nd) (j : Nat) : Value := if j < 12 then Sk.pt (Sk.lnk j N) else if j = 12 then st else if j = 13 then c else b
def Sk.lst (i : Nat) : Nat × Nat → List Sk.Nd → Nat × Nat
 | q, [] => q
 | q, x :: r => Sk.lst i (if i < x.h then (x.b, 3) else q) r
theorem Sk.first (i : Nat) (L : List Sk.Nd) : (Sk.lnk i L = none ∧ ∀ c ∈ L, c.h ≤ i) ∨ ∃ A x B, L = A ++ x :: B ∧ (∀ c ∈ A, c.h ≤ i) ∧ i < x.h ∧ Sk.lnk i L = some x.b := by
 induction L with
 | nil => exact .inl ⟨rfl, fun c hc => (by cases hc)⟩
 | cons y L ih =>
   by_cases hy : i < y.h
   ·exact .inr ⟨[], y, L, rfl, fun c hc => (by cases hc), hy, by rw [Sk.lnk, if_pos hy]⟩
   ·rcases ih with ⟨h1, h2⟩ | ⟨A, x, B, rfl, h2, h3, h4⟩
    ·refine .inl ⟨by rw [Sk.lnk, if_neg hy, h1], fun c hc => ?_⟩
     rcases List.mem_cons.1 hc with rfl | hc
     ·omega
     ·exact h2 c hc
    ·refine .inr ⟨y :: A, x, B, rfl, fun c hc => ?_, h3, by rw [Sk.lnk, if_neg hy, h4]⟩
     rcases List.mem_cons.1 hc with rfl | hc
     ·omega
     ·exact h2 c hc
section
variable {w : World}
end
def Sk.rest (p : Nat) (N : List Sk.Nd) (v : Value) : Nat := match v with
 | .pointer (some a) => if a.block = p then N.length else go a.block N
 | _ => 0
where go (b : Nat) : List Sk.Nd → Nat
 | [] => 0
 | x :: r => if x.b = b then r.length else go b r
end
section
open Go Go.RowKit
def Sk.ve (v : Kn.V) : List Value := [.bool v.null, .int .i64 v.n, .string v.s]
theorem Sk.ve_len (v : Kn.V) : (Sk.ve v).length = 3 := rfl
theorem Sk.ve_one (v : Kn.V) : ∀ u ∈ Sk.ve v, u.oneCell' = true := fun u hu => by
 simp only [Sk.ve, List.mem_cons, List.not_mem_nil, or_false] at hu
 rcases hu with rfl | rfl | rfl <;> rfl
def Sk.In (w : World) (v : Value) (l : List Kn.V) : Prop := ∃ a c, v = .slice a l.length c ∧ (∀ x ∈ l, Kn.Z x) ∧ l.length ≤ 4398046511104 ∧ ((a = none ∧ c = 0 ∧ l = []) ∨ ∃ b o, a = some ⟨b, o, none⟩ ∧ b < w.heap.size ∧ ∀ i x, l[i]? = some x → Kn.At w b (o + i * 3) x)
theorem Sk.In.later {w w' : World} {v : Value} {l : List Kn.V} (h : Sk.In w v l) (g : Below w.heap.size w w') : Sk.In w' v l := by
 obtain ⟨a, c, hv, hz, hl, h⟩ := h
 refine ⟨a, c, hv, hz, hl, ?_⟩
 rcases h with h | ⟨b, o, ha, hb, h⟩
 ·exact .inl h
 ·exact .inr ⟨b, o, ha, Nat.lt_of_lt_of_le hb g.size, fun i x hx => (h i x hx).later g⟩
abbrev Sk.Rw (base : Nat) (w : World) (v : Value) (l : List Kn.V) : Prop := Dk.Own 33 3 Sk.ve base w v l
set_option maxHeartbeats 1000000 in
set_option maxRecDepth 100000 in
theorem Sk.clone_c {w : World} {v : Value} {l : List Kn.V} (h : Sk.In w v l) :
 Calls Tryz.prog 53 #[v] w fun e w' => ∃ u, e = .returned u ∧ Sk.Rw w.heap.size w' u l ∧ Below w.heap.size w w' := by
 obtain ⟨a, c, rfl, _, hl, h⟩ := h
 rcases h with ⟨rfl, rfl, rfl⟩ | ⟨b, o, rfl, hb, h⟩
 ·simp only [List.length_nil]
  have he : ∀ w : World, (binOp .eql 39 (.slice none 0 0) (.slice none 0 0)).run Tryz.prog w = .ok (.bool true) w := fun _ => rfl
  go_enter Tryz.func53, Tryz.ntmps53
  go_wp2
  go_ret
  exact ⟨_, rfl, Dk.Own.nil _ _, Below.refl _ _⟩
 ·obtain ⟨w1, hw1⟩ : ∃ w1, w1 = w.alloc (.cells #[] 33) := ⟨_, rfl⟩
  have hb1 : Below w.heap.size w w1 := by rw [hw1]; exact (Below.refl _ w).alloc (Nat.le_refl _) _
  have ho : Sk.Rw w.heap.size w1 (.slice (some ⟨w.heap.size, 0, none⟩) 0 0) [] :=
   ⟨rfl, .inr ⟨w.heap.size, 0, #[], rfl, Nat.le_refl _, by rw [hw1]; exact heap_alloc_new w _, Nat.le_refl _, by decide, rfl, rfl⟩⟩
  have hsrc : Dk.Src Sk.ve w1 (.slice (some ⟨b, o, none⟩) l.length c) l := .inr ⟨_, c, rfl, Dk.src_cells Sk.ve_len (by decide) fun i j x hx hj => by
   have hc := (h i x hx).later hb1
   rcases (by omega : j = 0 ∨ j = 1 ∨ j = 2) with rfl | rfl | rfl
   ·exact hc.c0
   ·exact hc.c1
   ·exact hc.c2⟩
  have HO := Lib.hid ho
  have HS := Lib.hid hsrc
  have HL : Hid (w.heap.size ≤ w1.heap.size ∧ l.length ≤ 4398046511104) := Lib.hid ⟨hb1.size, hl⟩
  have HF : Hid (∀ v' w', Ty.Grew w1 w' (.slice (some ⟨w.heap.size, 0, none⟩) 0 0) v' → Below w.heap.size w w') := Lib.hid fun v' w' g => hb1.trans (g.below hb1.size ho.base_le)
  have he : ∀ w : World, (binOp .eql 39 (.slice (some ⟨b, o, none⟩) l.length c) (.slice none 0 0)).run Tryz.prog w = .ok (.bool false) w := fun _ => rfl
  clear h hsrc ho hb hl hb1
  go_enter Tryz.func53, Tryz.ntmps53
  go_wp2_with (
   at_builtin
   rw [← hw1]
   refine Dk.wpList_append 39 _ 32 Tryz.underlying39 Cl.infoV rfl (by decide) Sk.ve_len Sk.ve_one l HO.out HL.out.1 (by have := HL.out.2; simp; omega) (by have := HL.out.2; simp; omega) HS.out _ _ rfl rfl rfl rfl ?_
   intro v' w' h1 h2
   obtain ⟨av, nv, cv, hv⟩ : ∃ a n c, v' = .slice a n c := by
    rcases h1.form with ⟨e, _⟩ | ⟨g, c, e, _⟩
    ·exact ⟨none, 0, 0, e⟩
    ·exact ⟨_, _, c, e⟩
   have H1 := Lib.hid h1
   have H2 := Lib.hid h2
   clear h1 h2
   subst hv)
  go_ret
  exact ⟨_, rfl, H1.out, HF.out _ _ H2.out⟩
theorem Sk.results_cell {fn : Func} {p : Tmp} {ty : TypeId} (h : fn.results = #[.cell p ty]) (tmps : Array Value) (P : Program) (w : World) :
 (results fn tmps).run P w = ((asAddr (tmps.getD p undef)).run P w).andThen fun a w1 => (loadVar ty a).run P w1 := by
 simp only [results, h]
 simp [Sem.run_bind, Result.andThen]
theorem Sk.box2 {w : World} {x y z u : Value} {t t' : TypeId} {wb : World} (hw : wb = (w.alloc (.cells #[x, y] t)).alloc (.cells #[z, u] t')) :
 Below w.heap.size w wb ∧ wb.heap.size = w.heap.size + 2 ∧ (∀ W, Below wb.heap.size wb W → (W.cell? ⟨w.heap.size, 0, none⟩ = some x ∧ W.cell? ⟨w.heap.size, 1, none⟩ = some y) ∧ W.heap[w.heap.size + 1]? = some (.cells #[z, u] t' (0, 0))) := by
 have h1 : Below w.heap.size w wb := by rw [hw]; exact ((Below.refl _ w).alloc (Nat.le_refl _) _).alloc (by simp) _
 have h2 : wb.heap.size = w.heap.size + 2 := by rw [hw]; simp
 have h3 : wb.heap[w.heap.size]? = some (.cells #[x, y] t (0, 0)) := by
  rw [hw]
  exact (((Below.refl _ (w.alloc (.cells #[x, y] t))).alloc (Nat.le_refl _) _).block w.heap.size (by simp)).trans (heap_alloc_new w _)
 have h4 : wb.heap[w.heap.size + 1]? = some (.cells #[z, u] t' (0, 0)) := by
  rw [hw]
  have := heap_alloc_new (w.alloc (.cells #[x, y] t)) (.cells #[z, u] t')
  rwa [World.size_alloc] at this
 refine ⟨h1, h2, fun W g => ?_⟩
 have a3 := (g.block w.heap.size (by omega)).trans h3
 have a4 := (g.block (w.heap.size + 1) (by omega)).trans h4
 exact ⟨⟨by rw [cell_of_row W _ _ _ _ _ a3]; rfl, by rw [cell_of_row W _ _ _ _ _ a3]; rfl⟩, a4⟩
theorem Sk.Rw.put {base q i : Nat} {w : World} {v u : Value} {l : List Kn.V} (h : Sk.Rw base w v l) (hq : q < base) : Sk.Rw base (w.setCell ⟨q, i, none⟩ u) v l :=
 h.same fun b hb => Below.heap_setCell _ _ _ _ (by have := h.base_le b hb; show b ≠ q; omega)
theorem Sk.Rw.mono {base base' : Nat} {w : World} {v : Value} {l : List Kn.V} (h : Sk.Rw base w v l) (hb : base' ≤ base) : Sk.Rw base' w v l := by
 refine ⟨h.1, ?_⟩
 rcases h.2 with hn | ⟨g, cap, cur, e1, hbg, rest⟩
 ·exact .inl hn
 ·exact .inr ⟨g, cap, cur, e1, Nat.le_trans hb hbg, rest⟩
theorem Sk.put2 {B q : Nat} {w w1 : World} (g : Below B w w1) (hq : B ≤ q) (x y : Value) : Below B w ((w1.setCell ⟨q, 0, none⟩ x).setCell ⟨q, 1, none⟩ y) :=
 (g.setCell (p := ⟨q, 0, none⟩) hq x).setCell (p := ⟨q, 1, none⟩) hq y
end
section
open Go Go.RowKit
set_option maxHeartbeats 2000000 in
set_option maxRecDepth 100000 in
theorem Rn.given_c {w : World} (gn : Bool) {v : Value} {l : List Kn.V} (h : Sk.In w v l) :
 Calls Tryz.prog 44 #[.agg #[.bool gn, v]] w fun e w' => ∃ u, e = .returned (.agg #[.bool gn, u]) ∧ Sk.Rw w.heap.size w' u l ∧ Below w.heap.size w w' := by
 obtain ⟨a, c, hv, _⟩ := id h
 obtain ⟨wb, hwb⟩ : ∃ wb, wb = (w.alloc (.cells #[.bool gn, .slice a l.length c] 41)).alloc (.cells #[.bool false, .slice none 0 0] 41) := ⟨_, rfl⟩
 obtain ⟨hb, hs, hc⟩ := Sk.box2 hwb
 have cc : Calls Tryz.prog 53 #[.slice a l.length c] wb.drew _ := Sk.clone_c (w := wb.drew) (by rw [← hv]; exact h.later hb.drew)
 have CC := Lib.hid cc
 have HC := Lib.hid hc
 have HS : Hid (wb.heap.size = w.heap.size + 2 ∧ Below w.heap.size w wb) := Lib.hid ⟨hs, hb⟩
 obtain ⟨⟨t0, t1⟩, t2⟩ := hc wb.drew (Below.refl _ _).drew
 have z0 : wb.drew.cell? ⟨w.heap.size + 1, 0, none⟩ = some (.bool false) := by rw [cell_of_row _ _ _ _ _ _ t2]; rfl
 have z1 : wb.drew.cell? ⟨w.heap.size + 1, 1, none⟩ = some (.slice none 0 0) := by rw [cell_of_row _ _ _ _ _ _ t2]; rfl
 have f0 := frozen_of_row _ _ 0 _ _ t2
 have f1 := frozen_of_row _ _ 1 _ _ t2
 rw [hv]
 clear h hv cc hc hs hb t2
 go_enter Tryz.func44, Tryz.ntmps44
 go_wp2_with fail
 rw [← hwb]
 clear hwb
 go_region_law (first
  | (go_simp; go_at_call 53; (with_reducible refine CC.out.mono ?_); rintro e w1 ⟨u, rfl, hu, g1⟩
     obtain ⟨av, nv, cv, rfl⟩ : ∃ a n c, u = .slice a n c := by
      rcases hu.form with ⟨e, _⟩ | ⟨g, c, e, _⟩
      ·exact ⟨none, 0, 0, e⟩
      ·exact ⟨_, _, c, e⟩
     have HU := Lib.hid hu
     have HG : Hid (Below wb.heap.size wb w1) := Lib.hid ((Below.refl _ wb).drew.trans g1)
     have HC1 := HC.out w1 HG.out
     have z0 : w1.cell? ⟨w.heap.size + 1, 0, none⟩ = some (.bool false) := by rw [cell_of_row _ _ _ _ _ _ HC1.2]; rfl
     have z1 : w1.cell? ⟨w.heap.size + 1, 1, none⟩ = some (.slice none 0 0) := by rw [cell_of_row _ _ _ _ _ _ HC1.2]; rfl
     have t0 := HC1.1.1
     have t1 := HC1.1.2
     have f0 := frozen_of_row _ _ 0 _ _ HC1.2
     have f1 := frozen_of_row _ _ 1 _ _ HC1.2
     clear HC1 hu g1))
 all_goals
  have HE : Hid (Sk.Rw w.heap.size ((w1.setCell ⟨w.heap.size + 1, 0, none⟩ (.bool gn)).setCell ⟨w.heap.size + 1, 1, none⟩ (.slice av nv cv)) (.slice av nv cv) l ∧ Below w.heap.size w ((w1.setCell ⟨w.heap.size + 1, 0, none⟩ (.bool gn)).setCell ⟨w.heap.size + 1, 1, none⟩ (.slice av nv cv))) := Lib.hid (by
   have hs := HS.out.1
   have hu : Sk.Rw wb.heap.size w1 (.slice av nv cv) l := HU.out
   exact ⟨((hu.put (by omega)).put (by omega)).mono (by omega), Sk.put2 (HS.out.2.trans (HG.out.mono (by omega))) (by omega) _ _⟩)
  clear CC HC HU HG HS
  go_wp2
  (try simp only [Exit.inBlock, Exit.then])
  refine bodyPost_ret (v := .agg #[.bool gn, .slice av nv cv]) ?_ rfl ⟨_, rfl, HE.out⟩
  rw [Sk.results_cell rfl]
  go_simp
end
section
open Go.RowKit
def Rn.il {α : Type} (p : Dd.D → Bool) (f : Nat → Dd.D → α) : Nat → List Dd.D → List α
 | _, [] => []
 | k, d :: r => if p d = true then f k d :: Rn.il p f (k + 1) r else Rn.il p f (k + 1) r
theorem Rn.il_snoc {α : Type} (p : Dd.D → Bool) (f : Nat → Dd.D → α) (d : Dd.D) : ∀ (k : Nat) (A : List Dd.D), Rn.il p f k (A ++ [d]) = Rn.il p f k A ++ if p d = true then [f (k + A.length) d] else []
 | k, [] => by
   simp only [List.nil_append, Rn.il, List.length_nil, Nat.add_zero]
 | k, x :: A => by
   have ih := Rn.il_snoc p f d (k + 1) A
   simp only [List.cons_append, Rn.il, List.length_cons]
   rw [ih, show k + 1 + A.length = k + (A.length + 1) by omega]
   split <;> simp
theorem Rn.il_take {α : Type} {p : Dd.D → Bool} {f : Nat → Dd.D → α} {L : List Dd.D} {k : Nat} {d : Dd.D} (h : L[k]? = some d) : Rn.il p f 0 (L.take (k + 1)) = Rn.il p f 0 (L.take k) ++ if p d = true then [f k d] else [] := by
 obtain ⟨hk, rfl⟩ := List.getElem?_eq_some_iff.1 h
 rw [List.take_succ_eq_append_getElem hk, Rn.il_snoc, List.length_take, Nat.min_eq_left (by omega), Nat.zero_add]
theorem Rn.il_len {α : Type} (p : Dd.D → Bool) (f : Nat → Dd.D → α) : ∀ (k : Nat) (L : List Dd.D), (Rn.il p f k L).length = (L.filter p).length
 | _, [] => rfl
 | k, d :: L => by
   have ih := Rn.il_len p f (k + 1) L
   unfold Rn.il
   rw [List.filter_cons]
   split
   ·rw [List.length_cons, List.length_cons, ih]
   ·exact ih
theorem Rn.il_at {α : Type} (p : Dd.D → Bool) (f : Nat → Dd.D → α) : ∀ (o : Nat) (L : List Dd.D) (k : Nat) (d : Dd.D), (L.filter p)[k]? = some d → ∃ j, L[j]? = some d ∧ (Rn.il p f o L)[k]? = some (f (o + j) d)
 | _, [], k, d, h => by simp at h
 | o, x :: L, k, d, h => by
   unfold Rn.il
   rw [List.filter_cons] at h
   by_cases hp : p x = true
   ·rw [if_pos hp] at h ⊢
    cases k with
    | zero =>
      obtain rfl : x = d := by simpa using h
      exact ⟨0, rfl, rfl⟩
    | succ k =>
      obtain ⟨j, h1, h2⟩ := Rn.il_at p f (o + 1) L k d (by simpa using h)
      exact ⟨j + 1, by simpa using h1, by rw [List.getElem?_cons_succ, h2]; congr 2; omega⟩
   ·rw [if_neg hp] at h ⊢
    obtain ⟨j, h1, h2⟩ := Rn.il_at p f (o + 1) L k d h
    exact ⟨j + 1, by simpa using h1, by rw [h2]; congr 2; omega⟩
def Rn.e2 (x : Bool × (Option Addr × Nat × Nat)) : List Value := [.bool x.1, Bk.sv x.2]
theorem Rn.e2_len (x : Bool × (Option Addr × Nat × Nat)) : (Rn.e2 x).length = 2 := rfl
theorem Rn.e2_one (x : Bool × (Option Addr × Nat × Nat)) : ∀ u ∈ Rn.e2 x, u.oneCell' = true := fun u hu => by
 simp only [Rn.e2, List.mem_cons, List.not_mem_nil, or_false] at hu
 rcases hu with rfl | rfl <;> rfl
theorem Rn.infoD : (Tryz.prog.info? 41).map (fun i => (i.zero, i.size, i.bytes)) = some (some (.agg #[.bool false, .slice none 0 0]), 2, 32) := by kernel_rfl
def Rn.fd (R : Nat → Option Addr × Nat × Nat) (k : Nat) (d : Dd.D) : Bool × (Option Addr × Nat × Nat) := (d.gone, R k)
theorem Rn.row_at {w : World} {a : Option Addr} {n c : Nat} {vs : List Kn.V} (h : Kn.Vals w (.slice a n c) vs) {i : Nat} {x : Kn.V} (hx : vs[i]? = some x) : n = vs.length ∧ ∃ b o, a = some ⟨b, o, none⟩ ∧ b < w.heap.size ∧ Kn.At w b (o + i * 3) x := by
 obtain ⟨a', c', e, h⟩ := h
 simp only [Value.slice.injEq] at e
 obtain ⟨rfl, rfl, _⟩ := e
 rcases h with rfl | ⟨b, o, rfl, hb, _, h⟩
 ·simp at hx
 ·exact ⟨rfl, b, o, rfl, hb, h i x hx⟩
theorem Rn.key_at {d : Dd.D} (h : d.row ≠ []) : d.row[0]? = some (Bk.key d) := by
 unfold Bk.key
 cases hr : d.row with
 | nil => exact absurd hr h
 | cons x l => rfl
end
end Go.Proofs.YtbelkhkllneifaaGreatDoor
