/-
  A range over a function whose iterator turns blocks of its own and keeps cells of its own, and hands over values whose memory is new. No program.
  The plain mathematics of package kinds: values and their order. No program.
  Contracts of package kinds: which value is ahead.
  Contracts of the document's answers for kinds: which value is ahead.
  Contracts of package kinds: which schemas and rows may be.
  Contracts of package kinds: Fits and Key.
  The plain mathematics of package tally: what the bytes of a number are, what is read of bytes. No program.
  The plain mathematics of package tally, reading: what is read at the beginning of a list of bytes. No program.
  The plain mathematics of package tally: bytes are ordered as numbers. No program.
-/
import Derived.Test.YtfjhffldhpcdmaaDoorRows
import Derived.RangeFuncNested
import Derived.RangeFuncBound
import Derived.RangeFuncLeaves
import GoSem.Op.String
import Derived.WalkKit
import Derived.WalkSpells
import Derived.WalkLawsBesides
import Derived.Laws.StructEq
import Derived.Lib.QuietBelow
import Derived.Deep.RegionWith
import Derived.Deep.DeepCutAuto
import Derived.BigQuiet
import Derived.StillTailTactics
import Derived.Lib.Hide
import Derived.Deep.QuietTactic
import Derived.IntWalk
import Derived.Laws.BitsLemmas
import Derived.Laws.Bits64
namespace Go.Proofs.YtfjhffldhpcdmaaDoor
open Go Go.RowKit
/-- What a round leaves as it was: of the blocks that lay when the iterator was called, and of those laid since, all but those below B and those that the rounds themselves own (O; behind the round O'). -/
structure Sk.Kp (B : Nat) (O O' : Nat → Prop) (W W' : World) : Prop where
  size : W.heap.size ≤ W'.heap.size
  own : ∀ b, O' b → O b ∨ W.heap.size ≤ b
  same : ∀ b, B ≤ b → b < W.heap.size → ¬ O b → W'.heap[b]? = W.heap[b]?
theorem Sk.Kp.refl (B : Nat) (O : Nat → Prop) (W : World) : Sk.Kp B O O W W := ⟨Nat.le_refl _, fun _ h => .inl h, fun _ _ _ _ => rfl⟩
theorem Sk.Kp.trans {B : Nat} {O O' O'' : Nat → Prop} {X Y Z : World} (h : Sk.Kp B O O' X Y) (g : Sk.Kp B O' O'' Y Z) : Sk.Kp B O O'' X Z :=
  ⟨Nat.le_trans h.size g.size, fun b hb => by
    rcases g.own b hb with hb | hb
    · exact h.own b hb
    · exact .inr (Nat.le_trans h.size hb), fun b hB hb ho => (g.same b hB (Nat.lt_of_lt_of_le hb h.size) fun h2 => by
      rcases h.own b h2 with h3 | h3
      · exact ho h3
      · omega).trans (h.same b hB hb ho)⟩
theorem Sk.Kp.below {B : Nat} {O : Nat → Prop} {W W' : World} (h : Below W.heap.size W W') : Sk.Kp B O O W W' := ⟨h.size, fun _ h => .inl h, fun b _ hb _ => h.block b hb⟩
theorem Sk.Kp.set {B : Nat} (O : Nat → Prop) (W : World) {a : Addr} (ha : a.block < B ∨ O a.block) (v : Value) : Sk.Kp B O O W (W.setCell a v) :=
  ⟨by simp [World.setCell], fun _ h => .inl h, fun b hB _ ho => Below.heap_setCell _ _ _ _ fun e => by subst e; rcases ha with ha | ha; omega; exact ho ha⟩
theorem Sk.Kp.put {B : Nat} (O : Nat → Prop) (W : World) {l : Nat} (hl : l < B) (o : Obj) : Sk.Kp B O O W (W.putObj l o) :=
  ⟨by simp, fun _ h => .inl h, fun b hB _ _ => World.putObj_heap_other (by omega)⟩
theorem Sk.Kp.le {B B' : Nat} {O O' : Nat → Prop} {W W' : World} (h : Sk.Kp B O O' W W') (hB : B ≤ B') : Sk.Kp B' O O' W W' := ⟨h.size, h.own, fun b hb => h.same b (Nat.le_trans hB hb)⟩
def Sk.no : Nat → Prop := fun _ => False
/-- What an iterator promises: xs come, one behind the other, each as 'En' says of it; between two rounds whatever lies below n₀ is as it was. -/
def Sk.Seq {α : Type} (P : Program) (gf : FuncId) (lb : Array Value) (En : α → Array Value → World → Prop) (n₀ : Nat) (xs : List α) (w : World) : Prop :=
  ∀ (l : Nat) (J Jx : List α × (Nat → Prop) → World → Prop) (W : World), Below w.heap.size w W → OwnFrom W.heap.size J → OwnFrom W.heap.size Jx →
    (∀ pre O x args W1, J (pre, O) W1 → En x args W1 → Below n₀ W W1 → pre ++ [x] <+: xs → YieldAt Fence.wide 7 P l args W1 fun e W' =>
      (e = .returned (.bool true) ∧ ∃ O', J (pre ++ [x], O') W' ∧ Below n₀ W1 W' ∧ Sk.Kp W.heap.size O O' W1 W') ∨ (e = .returned (.bool false) ∧ ∃ O', Jx (pre ++ [x], O') W' ∧ Sk.Kp W.heap.size O O' W1 W')) →
    J ([], Sk.no) W →
    CallsIn Fence.wide 8 P gf (#[.func (.yield l) #[] #[]] ++ lb) W fun e W' => (∃ v, e = .returned v) ∧ ((∃ O, J (xs, O) W') ∨ ∃ pre O, pre <+: xs ∧ pre ≠ [] ∧ Jx (pre, O) W')
/-- How a round's body may be left. -/
def Sk.left {α : Type} (B n₀ : Nat) (I : List α × (Nat → Prop) → World → Prop) (Ix : Code → List α × (Nat → Prop) → World → Prop) (xs : List α) (O : Nat → Prop) (W : World) : Exit → Act → World → Prop
  | .normal, _, W' => ∃ O', Sk.Kp B O O' W W' ∧ Below n₀ W W' ∧ I (xs, O') W'
  | .ret, _, W' => ∃ O', Sk.Kp B O O' W W' ∧ Ix .ret (xs, O') W'
  | .exit id, _, W' => ∃ O', Sk.Kp B O O' W W' ∧ Ix (.exit id) (xs, O') W'
  | .goto t, _, W' => ∃ O', Sk.Kp B O O' W W' ∧ Ix (.goto t) (xs, O') W'
  | .panic _, _, _ => False
  | .outgrown, _, _ => False
theorem Sk.ownFrom_le {β : Type} {B B' : Nat} {I : β → World → Prop} (h : OwnFrom B I) (hB : B ≤ B') : OwnFrom B' I :=
  fun s W W' row hs hg hr => h s W W' row hs hg fun r e => ⟨Nat.le_trans hB (hr r e).1, (hr r e).2⟩
theorem Sk.own_put {B : Nat} {I : World → Prop} (h : OwnFrom B fun (_ : Unit) W => I W) {W : World} {l : Nat} {o : Obj} (o' : Obj) (hs : I W) (hB : B ≤ l) (hl : W.heap[l]? = some o) (ho : o.isCells = false) : I (W.putObj l o') :=
  OwnFrom.putObj (I := fun (_ : Unit) W => I W) (s := ()) h o' hs hB hl ho
section
variable {P : Program}
/-- The statement, over such an iterator. -/
theorem Sk.range_w {α : Type} {g : Operand} {ps : Array Tmp} {assign body : Code} {Q : Exit → Act → World → Prop} {a : Act} {w : World} {gf : Nat} {lb : Array Value}
    (hg : a.eval g = .func (.func gf) #[] lb) (eg : ∀ args w, (callFunc gf args).run P w = .ok (.enter gf args) w)
    {En : α → Array Value → World → Prop} {n₀ : Nat} {xs : List α} {w0 : World} (hseq : Sk.Seq P gf lb En n₀ xs w0) (hb0 : Below w0.heap.size w0 w) (hn0 : n₀ ≤ w.heap.size)
    (hps : ∀ x args W, En x args W → args.size = ps.size)
    (I : List α × (Nat → Prop) → World → Prop) (Ix : Code → List α × (Nat → Prop) → World → Prop) (hI : OwnFrom w.heap.size I) (hIx : ∀ c, OwnFrom w.heap.size (Ix c)) (h0 : I ([], Sk.no) w)
    (Ax : List α × (Nat → Prop) → α → Act → World → Prop) (hAx : ∀ pre x a', OwnFrom w.heap.size fun (_ : Unit) W => Ax pre x a' W)
    (hassign : ∀ l pre O x args W, I (pre, O) W → En x args W → pre ++ [x] <+: xs → Below n₀ w W →
      assign.wpIn (Fence.wide.inRound l) 7 P (Exit.then (fun a' W' => Below W.heap.size W W' ∧ Ax (pre, O) x a' W') (fun _ _ _ => False)) { tmps := (ps.zip args).foldl (fun t (p, v) => t.setIfInBounds p v) a.tmps, defers := [] } W)
    (hbody : ∀ l pre O x a' W, w.heap.size ≤ l → (∃ r, W.heap[l]? = some (.loop r)) → Ax (pre, O) x a' W → pre ++ [x] <+: xs → Below n₀ w W → body.wpIn (Fence.wide.inRound l) 7 P (Sk.left w.heap.size n₀ I Ix (pre ++ [x]) O W) a' W)
    (hdone : ∀ D O W, w.heap.size ≤ D → I (xs, O) W → W.heap[D]? = some (.deferred (some [])) → Q .normal { a with defers := { target := .collected D, args := #[] } :: a.defers } W)
    (hstop : ∀ D c pre O W, w.heap.size ≤ D → pre <+: xs → pre ≠ [] → Ix c (pre, O) W → W.heap[D]? = some (.deferred (some [])) → c.wpIn Fence.wide 9 P Q { a with defers := { target := .collected D, args := #[] } :: a.defers } W) :
    (Code.rangeFunc g ps assign body).wpIn Fence.wide 9 P Q a w := by
  refine wpIn_rangeFunc fun fn hfn => ?_
  let mk : LoopState → Option Code → Loop := fun st pe => { state := st, pending := pe, fn, tmps := a.tmps, params := ps, assign, body, defers := w.heap.size }
  obtain ⟨W1, hW1⟩ : ∃ W1, W1 = (w.alloc (.deferred (some []))).alloc (.loop (mk .ready none)) := ⟨_, rfl⟩
  have hsz : W1.heap.size = w.heap.size + 2 := by rw [hW1]; simp
  have hlo : W1.heap[w.heap.size + 1]? = some (.loop (mk .ready none)) := by
    have := World.alloc_heap_new (w.alloc (.deferred (some []))) (.loop (mk .ready none))
    rw [World.size_alloc] at this
    rw [hW1]
    exact this
  have hde : W1.heap[w.heap.size]? = some (.deferred (some [])) := by
    rw [hW1]
    exact (Below.heap_alloc _ _ _ (by simp)).trans (World.alloc_heap_new w _)
  have hI1 : I ([], Sk.no) W1 := by rw [hW1]; exact hI.alloc _ (hI.alloc _ h0)
  have hb1 : Below w.heap.size w W1 := by rw [hW1]; exact ((Below.refl _ w).alloc (Nat.le_refl _) _).alloc (by simp) _
  have far : ∀ {A B : World} {row : Option Nat} {k : Nat}, A.grownBy B row → (∀ r, row = some r → W1.heap.size ≤ r ∧ ∃ o : Obj, A.heap[r]? = some o ∧ o.isCells = false) → k < A.heap.size → k < w.heap.size + 2 → B.heap[k]? = A.heap[k]? := fun hg hr hk h2 =>
    hg.block _ hk fun e => by have := (hr _ e.symm).1; omega
  refine ⟨w.heap.size + 1, [{ target := .collected w.heap.size, args := #[] }], W1, { target := .fn (.func gf) lb, args := #[.func (.yield (w.heap.size + 1)) #[] #[]] }, W1, gf,
    #[.func (.yield (w.heap.size + 1)) #[] #[]] ++ lb, W1, by rw [hW1]; exact run_enterLoop_outer _ _ _ _ _, ?_, ?_, ?_, fun _ => by omega, ?_⟩
  · simp only [resolve, hg]
    simp [go_sem]
  · intro f' hf'
    exact trivial
  · simp [invoke, go_sem, eg]
  refine (hseq (w.heap.size + 1) (fun s W => I s W ∧ (∀ b, s.2 b → w.heap.size + 2 ≤ b) ∧ W.heap[w.heap.size + 1]? = some (.loop (mk .ready none)) ∧ W.heap[w.heap.size]? = some (.deferred (some [])))
    (fun s W => ∃ c, Ix c s W ∧ W.heap[w.heap.size + 1]? = some (.loop (mk .done (some c))) ∧ W.heap[w.heap.size]? = some (.deferred (some []))) W1 (hb0.trans (hb1.mono hb0.size)) ?_ ?_ ?_ ⟨hI1, fun b hb => hb.elim, hlo, hde⟩).mono ?_
  · rintro s A B row ⟨h1, ho, h2, h3⟩ hgr hr
    have hA := (Array.getElem?_eq_some_iff.1 h2).1
    exact ⟨hI s A B row h1 hgr fun r e => ⟨by have := (hr r e).1; omega, (hr r e).2⟩, ho, (far hgr hr hA (by omega)).trans h2, (far hgr hr (by omega) (by omega)).trans h3⟩
  · rintro s A B row ⟨c, h1, h2, h3⟩ hgr hr
    have hA := (Array.getElem?_eq_some_iff.1 h2).1
    exact ⟨c, hIx c s A B row h1 hgr fun r e => ⟨by have := (hr r e).1; omega, (hr r e).2⟩, (far hgr hr hA (by omega)).trans h2, (far hgr hr (by omega) (by omega)).trans h3⟩
  · -- a round
    rintro pre O x args W ⟨h1, ho, h2, h3⟩ he hbW hpx
    refine ⟨fn, _, assign, body, run_yield (P := P) h2 (hps x args W he), roundIn_of_wpIn hfn (wpIn_mono (hassign (w.heap.size + 1) pre O x args W h1 he hpx (hb1.mono hn0 |>.trans hbW)) ?_)⟩
    have hlW := (Array.getElem?_eq_some_iff.1 h2).1
    have hn1 : n₀ ≤ W.heap.size := by omega
    rintro e a2 W2 hp
    cases e with
    | normal =>
      obtain ⟨g2, x2⟩ := hp
      have l2 := (g2.block _ hlW).trans h2
      have d2 := (g2.block _ (by omega)).trans h3
      have hlt := (Array.getElem?_eq_some_iff.1 l2).1
      refine ⟨_, run_beginRound l2 rfl, ?_⟩
      have l3 : (W2.putObj (w.heap.size + 1) (.loop { mk .ready none with state := .busy })).heap[w.heap.size + 1]? = some (.loop { mk .ready none with state := .busy }) := World.putObj_heap_same hlt
      have d3 : (W2.putObj (w.heap.size + 1) (.loop { mk .ready none with state := .busy })).heap[w.heap.size]? = some (.deferred (some [])) := (World.putObj_heap_other (by omega)).trans d2
      have b2 : Below n₀ W W2 := g2.mono hn1
      have b3 : Below n₀ W2 (W2.putObj (w.heap.size + 1) (.loop { mk .ready none with state := .busy })) := belowK_b hn0 W2 _ _ _ (by omega) l2 rfl rfl
      have k3 : Sk.Kp W1.heap.size O O W (W2.putObj (w.heap.size + 1) (.loop { mk .ready none with state := .busy })) := (Sk.Kp.below g2).trans (Sk.Kp.put O _ (by omega) _)
      refine wpIn_mono (hbody (w.heap.size + 1) pre O x a2 _ (by omega) ⟨_, l3⟩ (Sk.own_put (hAx (pre, O) x a2) _ x2 (by omega) l2 rfl) hpx (((hb1.mono hn0).trans hbW).trans (b2.trans b3))) ?_
      rintro e a4 W4 hp4
      have out : ∀ (jump : Option Code) (O' : Nat → Prop), Sk.Kp w.heap.size O O' (W2.putObj (w.heap.size + 1) (.loop { mk .ready none with state := .busy })) W4 →
          (Instr.endRound (w.heap.size + 1) jump).run P W4 = .ok (.bool jump.isNone) (W4.putObj (w.heap.size + 1) (.loop (mk (if jump.isNone then .ready else .done) jump))) ∧
          (W4.putObj (w.heap.size + 1) (.loop (mk (if jump.isNone then .ready else .done) jump))).heap[w.heap.size + 1]? = some (.loop (mk (if jump.isNone then .ready else .done) jump)) ∧
          (W4.putObj (w.heap.size + 1) (.loop (mk (if jump.isNone then .ready else .done) jump))).heap[w.heap.size]? = some (.deferred (some [])) ∧
          Sk.Kp W1.heap.size O O' W (W4.putObj (w.heap.size + 1) (.loop (mk (if jump.isNone then .ready else .done) jump))) ∧ W4.heap[w.heap.size + 1]? = some (.loop { mk .ready none with state := .busy }) ∧ (∀ b, O' b → w.heap.size + 2 ≤ b) := fun jump O' k4 => by
        have l4 := (k4.same _ (by omega) (by rw [World.putObj_size]; omega) fun h => by have := ho _ h; omega).trans l3
        have d4 := (k4.same _ (Nat.le_refl _) (by rw [World.putObj_size]; omega) fun h => by have := ho _ h; omega).trans d3
        refine ⟨run_endRound (P := P) jump l4, World.putObj_heap_same (Array.getElem?_eq_some_iff.1 l4).1, (World.putObj_heap_other (by omega)).trans d4,
          (k3.trans (k4.le (by omega))).trans (Sk.Kp.put O' _ (by omega) _), l4, fun b hb => ?_⟩
        rcases k4.own b hb with h | h
        · exact ho b h
        · rw [World.putObj_size] at h; omega
      cases e with
      | normal =>
        obtain ⟨O', k4, b4, i4⟩ := hp4
        obtain ⟨r5, l5, d5, k5, l4, o5⟩ := out none O' k4
        exact ⟨_, _, r5, .inl ⟨rfl, O', ⟨hI.putObj _ i4 (by omega) l4 rfl, o5, l5, d5⟩, ((b2.trans b3).trans b4).trans (belowK_b hn0 W4 _ _ _ (by omega) l4 rfl rfl), k5⟩⟩
      | ret =>
        obtain ⟨O', k4, i4⟩ := hp4
        obtain ⟨r5, l5, d5, k5, l4, o5⟩ := out (some .ret) O' k4
        exact ⟨_, _, r5, .inr ⟨rfl, O', ⟨.ret, (hIx _).putObj _ i4 (by omega) l4 rfl, l5, d5⟩, k5⟩⟩
      | exit id =>
        obtain ⟨O', k4, i4⟩ := hp4
        obtain ⟨r5, l5, d5, k5, l4, o5⟩ := out (some (.exit id)) O' k4
        exact ⟨_, _, r5, .inr ⟨rfl, O', ⟨.exit id, (hIx _).putObj _ i4 (by omega) l4 rfl, l5, d5⟩, k5⟩⟩
      | goto t =>
        obtain ⟨O', k4, i4⟩ := hp4
        obtain ⟨r5, l5, d5, k5, l4, o5⟩ := out (some (.goto t)) O' k4
        exact ⟨_, _, r5, .inr ⟨rfl, O', ⟨.goto t, (hIx _).putObj _ i4 (by omega) l4 rfl, l5, d5⟩, k5⟩⟩
      | panic ch => exact hp4.elim
      | outgrown => exact hp4.elim
    | exit id => exact hp.elim
    | goto t => exact hp.elim
    | ret => exact hp.elim
    | panic ch => exact hp.elim
    | outgrown => exact hp.elim
  · -- behind the iterator
    rintro e W2 ⟨⟨v, rfl⟩, ⟨O, i2, _, l2, d2⟩ | ⟨pre, O, hpre, hne, c, i2, l2, d2⟩⟩
    · exact ⟨none, _, run_endLoop (P := P) l2 (fun e => by cases e), hdone _ O _ (Nat.le_refl _) (hI.putObj _ i2 (by omega) l2 rfl) ((World.putObj_heap_other (by omega)).trans d2)⟩
    · exact ⟨some c, _, run_endLoop (P := P) l2 (fun e => by cases e), hstop _ c pre O _ (Nat.le_refl _) hpre hne ((hIx c).putObj _ i2 (by omega) l2 rfl) ((World.putObj_heap_other (by omega)).trans d2)⟩
end
end Go.Proofs.YtfjhffldhpcdmaaDoor

namespace Go.Proofs.YtfjhffldhpcdmaaDoor.Kn
open Go
theorem bl_irrefl : ∀ l : List UInt8, Op.bytesLess l l = false
  | [] => rfl
  | a :: l => by simp [Op.bytesLess, bl_irrefl l]
theorem bl_total : ∀ a b : List UInt8, Op.bytesLess a b = true ∨ a = b ∨ Op.bytesLess b a = true
  | [], [] => .inr (.inl rfl)
  | [], _ :: _ => .inl rfl
  | _ :: _, [] => .inr (.inr rfl)
  | a :: x, b :: y => by
    rcases Nat.lt_trichotomy a.toNat b.toNat with h | h | h
    · left; simp [Op.bytesLess, UInt8.lt_iff_toNat_lt, h]
    · have e : a = b := UInt8.toNat_inj.1 h
      subst e
      rcases bl_total x y with g | g | g
      · left; simp [Op.bytesLess, g]
      · right; left; rw [g]
      · right; right; simp [Op.bytesLess, g]
    · right; right; simp [Op.bytesLess, UInt8.lt_iff_toNat_lt, h]
theorem bl_trans : ∀ a b c : List UInt8, Op.bytesLess a b = true → Op.bytesLess b c = true → Op.bytesLess a c = true
  | _, [], _, h, _ => by simp [Op.bytesLess] at h
  | _, _ :: _, [], _, h => by simp [Op.bytesLess] at h
  | [], _ :: _, _ :: _, _, _ => rfl
  | a :: x, b :: y, c :: z, h, k => by
    simp only [Op.bytesLess, Bool.or_eq_true, decide_eq_true_eq, Bool.and_eq_true, beq_iff_eq, UInt8.lt_iff_toNat_lt] at h k ⊢
    rcases h with h | ⟨rfl, h⟩ <;> rcases k with k | ⟨rfl, k⟩
    · left; omega
    · left; exact h
    · left; exact k
    · right; exact ⟨rfl, bl_trans x y z h k⟩
theorem bl_asymm (a b : List UInt8) (h : Op.bytesLess a b = true) : Op.bytesLess b a = false := by
  cases hb : Op.bytesLess b a with
  | false => rfl
  | true => have := bl_trans a b a h hb; rw [bl_irrefl] at this; cases this
/-- A value. -/
structure V where
  null : Bool
  n : Int
  s : ByteArray
/-- as the program has it -/
abbrev V.val (v : V) : Value := .agg #[.bool v.null, .int .i64 v.n, .string v.s]
def ncmp (a b : Int) : Int := if a < b then -1 else if b < a then 1 else 0
def lcmp (a b : List UInt8) : Int := if Op.bytesLess a b = true then -1 else if Op.bytesLess b a = true then 1 else 0
def scmp (a b : ByteArray) : Int := lcmp a.toList b.toList
def or2 (x y : Int) : Int := if x = 0 then y else x
/-- The order of values. -/
def cmp (a b : V) : Int := if a.null = true then (if b.null = true then 0 else -1) else if b.null = true then 1 else or2 (ncmp a.n b.n) (scmp a.s b.s)
/-- What a way to compare three things keeps. -/
structure Fair (x y z x' y' z' : Int) : Prop where
  xr : -1 ≤ x ∧ x ≤ 1
  yr : -1 ≤ y ∧ y ≤ 1
  zr : -1 ≤ z ∧ z ≤ 1
  xa : x' = -x
  ya : y' = -y
  za : z' = -z
  le : x ≤ 0 → y ≤ 0 → z ≤ 0
  lt : x ≤ 0 → y ≤ 0 → z = 0 → x = 0 ∧ y = 0
  ge : x ≥ 0 → y ≥ 0 → z ≥ 0
  gt : x ≥ 0 → y ≥ 0 → z = 0 → x = 0 ∧ y = 0
theorem ncmp_fair (a b c : Int) : Fair (ncmp a b) (ncmp b c) (ncmp a c) (ncmp b a) (ncmp c b) (ncmp c a) := by
  unfold ncmp
  constructor <;> (repeat' split) <;> omega
theorem bl_ne {a b : List UInt8} (h : Op.bytesLess a b = true) : Op.bytesLess b a = false ∧ a ≠ b := ⟨bl_asymm a b h, fun e => by rw [e, bl_irrefl] at h; cases h⟩
theorem lcmp_lt {a b : List UInt8} (h : Op.bytesLess a b = true) : lcmp a b = -1 ∧ lcmp b a = 1 := by simp [lcmp, h, bl_asymm a b h]
theorem lcmp_self (a : List UInt8) : lcmp a a = 0 := by simp [lcmp, bl_irrefl]
theorem lcmp_anti (a b : List UInt8) : lcmp b a = -lcmp a b ∧ -1 ≤ lcmp a b ∧ lcmp a b ≤ 1 := by
  rcases bl_total a b with h | rfl | h
  · rw [(lcmp_lt h).1, (lcmp_lt h).2]; omega
  · rw [lcmp_self]; omega
  · rw [(lcmp_lt h).1, (lcmp_lt h).2]; omega
theorem lcmp_chain (a b c : List UInt8) (h1 : lcmp a b ≤ 0) (h2 : lcmp b c ≤ 0) : lcmp a c ≤ 0 ∧ (lcmp a c = 0 → lcmp a b = 0 ∧ lcmp b c = 0) := by
  rcases bl_total a b with h | rfl | h
  · rcases bl_total b c with k | rfl | k
    · have := (lcmp_lt (bl_trans a b c h k)).1
      omega
    · rw [lcmp_self]; omega
    · have := (lcmp_lt k).2; omega
  · rw [lcmp_self]; omega
  · have := (lcmp_lt h).2; omega
theorem lcmp_fair (a b c : List UInt8) : Fair (lcmp a b) (lcmp b c) (lcmp a c) (lcmp b a) (lcmp c b) (lcmp c a) := by
  have h1 := lcmp_anti a b
  have h2 := lcmp_anti b c
  have h3 := lcmp_anti a c
  have h4 := lcmp_chain a b c
  have h5 := lcmp_chain c b a
  constructor <;> omega
theorem lex_fair {x y z x' y' z' p q r p' q' r' : Int} (h : Fair x y z x' y' z') (k : Fair p q r p' q' r') : Fair (or2 x p) (or2 y q) (or2 z r) (or2 x' p') (or2 y' q') (or2 z' r') := by
  obtain ⟨⟨h1, h2⟩, ⟨h3, h4⟩, ⟨h5, h6⟩, rfl, rfl, rfl, h10, h11, h12, h13⟩ := h
  obtain ⟨⟨k1, k2⟩, ⟨k3, k4⟩, ⟨k5, k6⟩, rfl, rfl, rfl, k10, k11, k12, k13⟩ := k
  unfold or2
  constructor <;> (repeat' split) <;> omega
theorem cmp_fair (a b c : V) : Fair (cmp a b) (cmp b c) (cmp a c) (cmp b a) (cmp c b) (cmp c a) := by
  have h := lex_fair (ncmp_fair a.n b.n c.n) (show Fair (scmp a.s b.s) (scmp b.s c.s) (scmp a.s c.s) (scmp b.s a.s) (scmp c.s b.s) (scmp c.s a.s) from lcmp_fair a.s.toList b.s.toList c.s.toList)
  unfold cmp
  cases a.null <;> cases b.null <;> cases c.null <;> simp only [Bool.false_eq_true, if_false, if_true]
  · exact h
  all_goals
    obtain ⟨⟨h1, h2⟩, ⟨h3, h4⟩, ⟨h5, h6⟩, h7, h8, h9, h10, h11, h12, h13⟩ := h
    constructor <;> omega
theorem lcmp_zero (a b : List UInt8) : lcmp a b = 0 ↔ a = b := by
  rcases bl_total a b with h | rfl | h
  · rw [(lcmp_lt h).1]; exact ⟨fun e => by omega, fun e => absurd e (bl_ne h).2⟩
  · simp [lcmp_self]
  · rw [(lcmp_lt h).2]; exact ⟨fun e => by omega, fun e => absurd e.symm (bl_ne h).2⟩
theorem ncmp_zero (a b : Int) : ncmp a b = 0 ↔ a = b := by unfold ncmp; repeat' split <;> omega
theorem or2_zero (x y : Int) : or2 x y = 0 ↔ x = 0 ∧ y = 0 := by unfold or2; split <;> omega
/-- equal, just where both are null or neither is and both fields are the same -/
def same (a b : V) : Bool := (a.null && b.null) || ((!a.null && !b.null) && a.n == b.n && a.s.toList == b.s.toList)
theorem cmp_zero (a b : V) : (cmp a b == 0) = same a b := by
  rw [Bool.eq_iff_iff, beq_iff_eq]
  unfold cmp same
  cases a.null <;> cases b.null <;> simp [or2_zero, ncmp_zero, scmp, lcmp_zero]
end Go.Proofs.YtfjhffldhpcdmaaDoor.Kn

namespace Go.Proofs.YtfjhffldhpcdmaaDoor
open Go.RowKit
theorem Kn.isNaNi_c (a : Int) (w : World) : Calls Tryd.prog 50 #[.int .i64 a] w fun e w' => e = .returned (.bool false) ∧ w' = w := by
  go_enter Tryd.func50, Tryd.ntmps50
  go_wp2
  go_ret
  exact ⟨rfl, rfl⟩
theorem Kn.isNaNs_c (a : ByteArray) (w : World) : Calls Tryd.prog 51 #[.string a] w fun e w' => e = .returned (.bool false) ∧ w' = w := by
  go_enter Tryd.func51, Tryd.ntmps51
  go_wp2
  go_ret
  exact ⟨rfl, rfl⟩
theorem Kn.cmpi_c (a b : Int) (w : World) : Calls Tryd.prog 46 #[.int .i64 a, .int .i64 b] w fun e w' => e = .returned (.int .i64 (Kn.ncmp a b)) ∧ w' = w := by
  have hc : (a < b ∧ Kn.ncmp a b = -1) ∨ (¬ a < b ∧ b < a ∧ Kn.ncmp a b = 1) ∨ (¬ a < b ∧ ¬ b < a ∧ Kn.ncmp a b = 0) := by unfold Kn.ncmp; repeat' split <;> omega
  rcases hc with ⟨h1, h⟩ | ⟨h1, h2, h⟩ | ⟨h1, h2, h⟩
  all_goals
    rw [h]
    go_enter Tryd.func46, Tryd.ntmps46
    go_wp2_with fail
    refine (Kn.isNaNi_c _ _).mono ?_
    rintro e w1 ⟨rfl, rfl⟩
    go_wp2_with fail
    refine (Kn.isNaNi_c _ _).mono ?_
    rintro e w1 ⟨rfl, rfl⟩
    go_wp2
    go_ret
    exact ⟨rfl, rfl⟩
theorem Kn.cmps_c (a b : ByteArray) (w : World) : Calls Tryd.prog 47 #[.string a, .string b] w fun e w' => e = .returned (.int .i64 (Kn.scmp a b)) ∧ w' = w := by
  have hc : (Op.bytesLess a.toList b.toList = true ∧ Kn.scmp a b = -1) ∨ (Op.bytesLess a.toList b.toList = false ∧ (a.toList == b.toList) = false ∧ Kn.scmp a b = 1) ∨ (Op.bytesLess a.toList b.toList = false ∧ (a.toList == b.toList) = true ∧ Kn.scmp a b = 0) := by
    unfold Kn.scmp Kn.lcmp
    rcases Kn.bl_total a.toList b.toList with h | h | h
    · left; rw [h]; exact ⟨rfl, rfl⟩
    · right; right; rw [h, Kn.bl_irrefl]; exact ⟨rfl, by simp, rfl⟩
    · right; left; rw [h, (Kn.bl_ne h).1]; exact ⟨rfl, by rw [beq_eq_false_iff_ne]; exact fun e => (Kn.bl_ne h).2 e.symm, rfl⟩
  rcases hc with ⟨h1, h⟩ | ⟨h1, h2, h⟩ | ⟨h1, h2, h⟩
  all_goals
    rw [h]
    go_enter Tryd.func47, Tryd.ntmps47
    go_wp2_with fail
    refine (Kn.isNaNs_c _ _).mono ?_
    rintro e w1 ⟨rfl, rfl⟩
    go_wp2_with fail
    refine (Kn.isNaNs_c _ _).mono ?_
    rintro e w1 ⟨rfl, rfl⟩
    go_wp2
    go_ret
    exact ⟨rfl, rfl⟩
theorem Kn.or_c (b : Nat) (x y : Int) (w : World) (h0 : w.cell? ⟨b, 0, none⟩ = some (.int .i64 x)) (h1 : w.cell? ⟨b, 1, none⟩ = some (.int .i64 y)) :
    Calls Tryd.prog 45 #[.slice (some ⟨b, 0, none⟩) 2 2] w fun e w' => e = .returned (.int .i64 (Kn.or2 x y)) ∧ w' = w := by
  have hc : ((x != 0) = true ∧ Kn.or2 x y = x) ∨ ((x != 0) = false ∧ (y != 0) = true ∧ Kn.or2 x y = y) ∨ ((x != 0) = false ∧ (y != 0) = false ∧ Kn.or2 x y = 0) := by
    unfold Kn.or2
    by_cases hx : x = 0 <;> by_cases hy : y = 0 <;> simp [hx, hy]
  rcases hc with ⟨h2, h⟩ | ⟨h2, h3, h⟩ | ⟨h2, h3, h⟩
  · rw [h]
    go_enter Tryd.func45, Tryd.ntmps45
    go_wp2_with fail
    refine wp_loop_rounds 3 ?_; rw [rounds_succ]
    go_wp2
    go_ret
    exact ⟨rfl, rfl⟩
  · rw [h]
    go_enter Tryd.func45, Tryd.ntmps45
    go_wp2_with fail
    refine wp_loop_rounds 3 ?_; rw [rounds_succ]
    go_wp2
    rw [rounds_succ]
    go_wp2
    go_ret
    exact ⟨rfl, rfl⟩
  · rw [h]
    go_enter Tryd.func45, Tryd.ntmps45
    go_wp2_with fail
    refine wp_loop_rounds 3 ?_; rw [rounds_succ]
    go_wp2
    rw [rounds_succ]
    go_wp2
    rw [rounds_succ]
    go_wp2
    go_ret
    exact ⟨rfl, rfl⟩
theorem Kn.new2 (w : World) (x y : Value) (t : TypeId) (b : Nat) (hb : b = w.heap.size) : (w.alloc (.cells #[x, y] t)).drew.cell? ⟨b, 0, none⟩ = some x ∧ (w.alloc (.cells #[x, y] t)).drew.cell? ⟨b, 1, none⟩ = some y := by
  subst hb
  have h := heap_alloc_new w (.cells #[x, y] t)
  show (w.alloc (.cells #[x, y] t)).cell? ⟨w.heap.size, 0, none⟩ = some x ∧ (w.alloc (.cells #[x, y] t)).cell? ⟨w.heap.size, 1, none⟩ = some y
  unfold World.cell?
  simp only [h]
  exact ⟨rfl, rfl⟩
set_option maxHeartbeats 400000 in
/-- Compare: which value is ahead. -/
theorem Kn.compare_c (a b : Kn.V) (w : World) : Calls Tryd.prog 39 #[a.val, b.val] w fun e w' => e = .returned (.int .i64 (Kn.cmp a b)) ∧ Below w.heap.size w w' := by
  obtain ⟨an, ai, sa⟩ := a
  obtain ⟨bn, bi, sb⟩ := b
  unfold Kn.V.val
  cases an <;> cases bn
  · have h : Kn.cmp ⟨false, ai, sa⟩ ⟨false, bi, sb⟩ = Kn.or2 (Kn.ncmp ai bi) (Kn.scmp sa sb) := rfl
    rw [h]
    go_enter Tryd.func39, Tryd.ntmps39
    go_wp2_with fail
    refine wp_region_still_tail 10 (by kernel_rfl) (by kernel_rfl) ?_
    simp only [List.take_succ_cons, List.take_zero, List.drop_succ_cons, List.drop_zero]
    change wpStill _ _ (World.drew _) (fun a' => wpList _ _ _ _ a' (World.drew _)) _ _
    still_step
    still_step
    still_step
    still_step
    still_call (Kn.cmpi_c ai bi _)
    still_step
    still_step
    still_step
    still_step
    still_call (Kn.cmps_c sa sb _)
    refine wpStill_nil ?_
    go_wp2_with fail
    refine (Kn.or_c _ (Kn.ncmp ai bi) (Kn.scmp sa sb) _ (Kn.new2 _ _ _ _ _ (by simp)).1 (Kn.new2 _ _ _ _ _ (by simp)).2).mono ?_
    rintro e wc ⟨rfl, rfl⟩
    go_wp2
    go_ret
    exact ⟨rfl, ((((Below.refl _ w).alloc (Nat.le_refl _) _).alloc (by simp) _).alloc (by simp; omega) _).drew⟩
  all_goals
    go_enter Tryd.func39, Tryd.ntmps39
    go_wp2
    go_ret
    exact ⟨rfl, ((Below.refl _ w).alloc (Nat.le_refl _) _).alloc (by simp) _⟩
end Go.Proofs.YtfjhffldhpcdmaaDoor

namespace Go.Proofs.YtfjhffldhpcdmaaDoor
open Go.RowKit
theorem Kn.below_drewN {B : Nat} {w w' : World} (h : Below B w w') (n : Nat) : Below B w (w'.drewN n) := ⟨h.os, h.tape, h.output, h.size, h.block⟩
/-- The value lies in the cells from this place on. -/
structure Kn.At (w : World) (b o : Nat) (v : Kn.V) : Prop where
  c0 : w.cell? ⟨b, o, none⟩ = some (.bool v.null)
  c1 : w.cell? ⟨b, o + 1, none⟩ = some (.int .i64 v.n)
  c2 : w.cell? ⟨b, o + 2, none⟩ = some (.string v.s)
theorem Kn.At.lt {w : World} {b o : Nat} {v : Kn.V} (h : Kn.At w b o v) : b < w.heap.size := World.block_lt_of_cell? w _ h.c0
theorem Kn.At.later {w w' : World} {b o : Nat} {v : Kn.V} (h : Kn.At w b o v) (g : Below w.heap.size w w') : Kn.At w' b o v :=
  ⟨(g.cell (p := ⟨b, o, none⟩) h.lt).trans h.c0, (g.cell (p := ⟨b, o + 1, none⟩) h.lt).trans h.c1, (g.cell (p := ⟨b, o + 2, none⟩) h.lt).trans h.c2⟩
theorem Kn.cell_new (w : World) (cs : Array Value) (t : TypeId) (i : Nat) (v : Value) (h : cs[i]? = some v) : (w.alloc (.cells cs t)).cell? ⟨w.heap.size, i, none⟩ = some v := by
  have e := heap_alloc_new w (.cells cs t)
  unfold World.cell?
  simp only [e]
  exact h
theorem Kn.At.new (w : World) (v : Kn.V) (t : TypeId) : Kn.At (w.alloc (.cells #[.bool v.null, .int .i64 v.n, .string v.s] t)) w.heap.size 0 v :=
  ⟨Kn.cell_new w _ t 0 _ rfl, Kn.cell_new w _ t 1 _ rfl, Kn.cell_new w _ t 2 _ rfl⟩
theorem Kn.At.alloc {w : World} {b o : Nat} {v : Kn.V} (h : Kn.At w b o v) (x : Obj) : Kn.At (w.alloc x) b o v := h.later ((Below.refl _ w).alloc (Nat.le_refl _) x)
/-- Two values boxed, one behind the other. -/
theorem Kn.boxed2 (w : World) (a b : Kn.V) (t t' : TypeId) : Kn.At ((w.alloc (.cells #[.bool a.null, .int .i64 a.n, .string a.s] t)).alloc (.cells #[.bool b.null, .int .i64 b.n, .string b.s] t')) w.heap.size 0 a ∧
    Kn.At ((w.alloc (.cells #[.bool a.null, .int .i64 a.n, .string a.s] t)).alloc (.cells #[.bool b.null, .int .i64 b.n, .string b.s] t')) (w.heap.size + 1) 0 b := by
  refine ⟨(Kn.At.new w a t).alloc _, ?_⟩
  have := Kn.At.new (w.alloc (.cells #[.bool a.null, .int .i64 a.n, .string a.s] t)) b t'
  rwa [World.size_alloc] at this
/-- The value's text is no longer than a machine can hold. -/
def Kn.Z (a : Kn.V) : Prop := a.s.size ≤ 140737488351232
theorem Kn.len_toList (s : ByteArray) : s.toList.length = s.size := by
  rw [ByteArray.toList_eq]
  exact Array.length_toList
theorem Kn.at_toList (s : ByteArray) (k : Nat) (h : k < s.size) : s.toList.drop k = s[k] :: s.toList.drop (k + 1) := by
  have hl : k < s.toList.length := by rw [Kn.len_toList]; exact h
  rw [List.drop_eq_getElem_cons hl]
  congr 1
  rw [List.getElem_of_eq (ByteArray.toList_eq s)]
  rfl
theorem Kn.bl_step (x y : UInt8) (l m : List UInt8) : ((((x.toNat : Int) != (y.toNat : Int)) = true ∧ Op.bytesLess (x :: l) (y :: m) = decide (x.toNat < y.toNat)) ∨ (((x.toNat : Int) != (y.toNat : Int)) = false ∧ Op.bytesLess (x :: l) (y :: m) = Op.bytesLess l m)) := by
  by_cases h : x = y
  · subst h
    right
    simp [Op.bytesLess]
  · left
    have hn : x.toNat ≠ y.toNat := fun e => h (UInt8.toNat_inj.1 e)
    refine ⟨by rw [bne_iff_ne]; omega, ?_⟩
    simp [Op.bytesLess, h, UInt8.lt_iff_toNat_lt]
theorem Kn.bl_end (a b : ByteArray) (k : Nat) (ha : k ≤ a.size) (hb : k ≤ b.size) (h : ¬ k < a.size ∨ ¬ k < b.size) : Op.bytesLess (a.toList.drop k) (b.toList.drop k) = decide (a.size < b.size) := by
  by_cases h1 : k < b.size
  · have e : a.toList.drop k = [] := List.drop_eq_nil_of_le (by rw [Kn.len_toList]; omega)
    rw [e, Kn.at_toList b k h1]
    rw [decide_eq_true (by omega)]
    rfl
  · have e : b.toList.drop k = [] := List.drop_eq_nil_of_le (by rw [Kn.len_toList]; omega)
    rw [e, decide_eq_false (by omega)]
    cases List.drop k a.toList <;> rfl
set_option maxHeartbeats 1000000 in
theorem Kn.rahead_c (a b : ByteArray) (ha : a.size ≤ 140737488351232) (hb : b.size ≤ 140737488351232) (w : World) :
    Calls Tryd.prog 38 #[.string a, .string b] w fun e w' => e = .returned (.bool (Op.bytesLess a.toList b.toList)) ∧ ∃ n, w' = w.drewN n := by
  go_enter Tryd.func38, Tryd.ntmps38
  go_wp2
  go_loopw [5] (fun i wr => ∃ k : Nat, k ≤ a.size ∧ k ≤ b.size ∧ i = .int .i64 k ∧ Op.bytesLess a.toList b.toList = Op.bytesLess (a.toList.drop k) (b.toList.drop k) ∧ ∃ n, wr = w.drewN n) (fun i _ => a.size - (intOf i).toNat)
  case atStart => exact ⟨0, by omega, by omega, rfl, rfl, 0, rfl⟩
  case round =>
    obtain ⟨k, hka, hkb, rfl, hl, n, rfl⟩ := hrel
    by_cases h1 : k < a.size
    · by_cases h2 : k < b.size
      · have d1 : (k : Int) < (a.size : Int) := by omega
        have d2 : (k : Int) < (b.size : Int) := by omega
        have d0 : 0 ≤ (k : Int) := by omega
        rw [Kn.at_toList a k h1, Kn.at_toList b k h2] at hl
        have HL := Lib.hid hl
        clear hl
        rcases Kn.bl_step a[k] b[k] (a.toList.drop (k + 1)) (b.toList.drop (k + 1)) with ⟨h3, h4⟩ | ⟨h3, h4⟩
        · have H4 := Lib.hid h4
          clear h4
          go_wp2_with fail
          go_quiet (fail)
          go_wp2_with fail
          go_quiet (fail)
          go_wp2
          go_ret
          exact ⟨congrArg (fun x => Ending.returned (.bool x)) (HL.out.trans H4.out).symm, _, by rw [World.drewN_drewN, World.drewN_drewN]⟩
        · have H4 := Lib.hid h4
          clear h4
          go_wp2_with fail
          go_quiet (fail)
          go_wp2
          go_roundw
          case rel => exact ⟨k + 1, by omega, by omega, by simp, by rw [HL.out, H4.out], _, rfl⟩
          case measure => simp [intOf]; omega
      · have d1 : (k : Int) < (a.size : Int) := by omega
        have d2 : ¬ (k : Int) < (b.size : Int) := by omega
        go_wp2
        go_ret
        exact ⟨congrArg (fun x => Ending.returned (.bool x)) (Kn.bl_end a b k hka hkb (.inr h2)).symm, _, rfl⟩
    · have d1 : ¬ (k : Int) < (a.size : Int) := by omega
      go_wp2
      go_ret
      exact ⟨congrArg (fun x => Ending.returned (.bool x)) (Kn.bl_end a b k hka hkb (.inl h1)).symm, _, rfl⟩
/-- The document's answer: what is ahead. -/
theorem Kn.ahead_is (a b : Kn.V) : (decide (Kn.cmp a b < 0)) = (if a.null = true then !b.null else if b.null = true then false else if (a.n != b.n) = true then decide (a.n < b.n) else Op.bytesLess a.s.toList b.s.toList) := by
  unfold Kn.cmp
  cases a.null <;> cases b.null <;> simp only [Bool.false_eq_true, if_false, if_true]
  · by_cases h : a.n = b.n
    · rw [h]
      have e : Kn.ncmp b.n b.n = 0 := (Kn.ncmp_zero _ _).2 rfl
      rw [e]
      have e2 : (b.n != b.n) = false := by simp
      rw [e2, if_neg (by simp)]
      show decide (Kn.lcmp a.s.toList b.s.toList < 0) = _
      unfold Kn.lcmp
      cases Op.bytesLess a.s.toList b.s.toList
      · cases Op.bytesLess b.s.toList a.s.toList <;> rfl
      · rfl
    · have e : Kn.ncmp a.n b.n ≠ 0 := fun e => h ((Kn.ncmp_zero _ _).1 e)
      have e2 : (a.n != b.n) = true := by rw [bne_iff_ne]; exact h
      rw [if_pos e2]
      unfold Kn.or2
      rw [if_neg e, Bool.eq_iff_iff, decide_eq_true_iff, decide_eq_true_iff]
      unfold Kn.ncmp
      repeat' split <;> omega
  all_goals rfl
set_option maxHeartbeats 1000000 in
theorem Kn.rAhead_c (a b : Kn.V) (ha : Kn.Z a) (hb : Kn.Z b) (w : World) :
    Calls Tryd.prog 23 #[a.val, b.val] w fun e w' => e = .returned (.bool (decide (Kn.cmp a b < 0))) ∧ Below w.heap.size w w' := by
  rw [Kn.ahead_is]
  obtain ⟨an, ai, sa⟩ := a
  obtain ⟨bn, bi, sb⟩ := b
  unfold Kn.V.val
  cases an <;> cases bn
  · rcases Bool.eq_false_or_eq_true (ai != bi) with h | h
    · show Calls _ _ _ _ fun e w' => e = .returned (.bool (if (ai != bi) = true then decide (ai < bi) else Op.bytesLess sa.toList sb.toList)) ∧ _
      rw [if_pos h]
      go_enter Tryd.func23, Tryd.ntmps23
      go_wp2
      go_ret
      exact ⟨rfl, ((Below.refl _ w).alloc (Nat.le_refl _) _).alloc (by simp) _⟩
    · show Calls _ _ _ _ fun e w' => e = .returned (.bool (if (ai != bi) = true then decide (ai < bi) else Op.bytesLess sa.toList sb.toList)) ∧ _
      rw [if_neg (by rw [h]; simp)]
      go_enter Tryd.func23, Tryd.ntmps23
      go_wp2_with fail
      refine (Kn.rahead_c sa sb ha hb _).mono ?_
      rintro e w1 ⟨rfl, n, rfl⟩
      go_wp2
      go_ret
      exact ⟨rfl, Kn.below_drewN (((Below.refl _ w).alloc (Nat.le_refl _) _).alloc (by simp) _) n⟩
  all_goals
    go_enter Tryd.func23, Tryd.ntmps23
    go_wp2
    go_ret
    exact ⟨rfl, ((Below.refl _ w).alloc (Nat.le_refl _) _).alloc (by simp) _⟩
set_option maxHeartbeats 1000000 in
theorem Kn.rCompare_c (a b : Kn.V) (ha : Kn.Z a) (hb : Kn.Z b) (w : World) :
    Calls Tryd.prog 24 #[a.val, b.val] w fun e w' => e = .returned (.int .i64 (Kn.cmp a b)) ∧ Below w.heap.size w w' := by
  have hf := Kn.cmp_fair a b b
  have hc : (Kn.cmp a b = -1 ∧ decide (Kn.cmp a b < 0) = true) ∨ (Kn.cmp a b = 1 ∧ decide (Kn.cmp a b < 0) = false ∧ decide (Kn.cmp b a < 0) = true) ∨ (Kn.cmp a b = 0 ∧ decide (Kn.cmp a b < 0) = false ∧ decide (Kn.cmp b a < 0) = false) := by
    have h1 := hf.xr
    have h2 := hf.xa
    simp only [decide_eq_true_iff, decide_eq_false_iff_not]
    omega
  have ca := Kn.rAhead_c a b ha hb
  have cb := Kn.rAhead_c b a hb ha
  rcases hc with ⟨h1, h2⟩ | ⟨h1, h2, h3⟩ | ⟨h1, h2, h3⟩
  · rw [h1]
    rw [h2] at ca
    clear cb hf h1 h2
    unfold Kn.V.val at ca ⊢
    go_enter Tryd.func24, Tryd.ntmps24
    go_wp2_with fail
    refine (ca _).mono ?_
    rintro e w1 ⟨rfl, g1⟩
    go_wp2
    go_ret
    exact ⟨rfl, (((Below.refl _ w).alloc (Nat.le_refl _) _).alloc (by simp) _).trans (g1.mono (by simp; omega))⟩
  all_goals
    rw [h1]
    rw [h2] at ca
    rw [h3] at cb
    clear hf h1 h2 h3
    unfold Kn.V.val at ca cb ⊢
    go_enter Tryd.func24, Tryd.ntmps24
    go_wp2_with fail
    refine (ca _).mono ?_
    rintro e w1 ⟨rfl, g1⟩
    obtain ⟨a0, a1, a2⟩ := (Kn.boxed2 w a b _ _).1.later g1
    obtain ⟨b0, b1, b2⟩ := (Kn.boxed2 w a b _ _).2.later g1
    go_wp2_with fail
    refine (cb _).mono ?_
    rintro e w2 ⟨rfl, g2⟩
    go_wp2
    go_ret
    exact ⟨rfl, (((Below.refl _ w).alloc (Nat.le_refl _) _).alloc (by simp) _).trans ((g1.trans (g2.mono g1.size)).mono (by simp; omega))⟩
end Go.Proofs.YtfjhffldhpcdmaaDoor

namespace Go.Proofs.YtfjhffldhpcdmaaDoor
open Go.RowKit
/-- A column: its kind, whether it may be null. -/
structure Kn.C where
  k : Int
  null : Bool
abbrev Kn.C.val (c : Kn.C) : Value := .agg #[.int .i64 c.k, .bool c.null]
/-- Columns that lie one behind the other. -/
structure Kn.Cols (w : World) (v : Value) (l : List Kn.C) : Prop where
  is : ∃ a c, v = .slice a l.length c ∧ (l = [] ∨ ∃ b o, a = some ⟨b, o, none⟩ ∧ b < w.heap.size ∧ l.length ≤ 9223372036854775807 ∧
    ∀ i x, l[i]? = some x → w.cell? ⟨b, o + i * 2, none⟩ = some (.int .i64 x.k) ∧ w.cell? ⟨b, o + i * 2 + 1, none⟩ = some (.bool x.null))
/-- Values that lie one behind the other. -/
structure Kn.Vals (w : World) (v : Value) (l : List Kn.V) : Prop where
  is : ∃ a c, v = .slice a l.length c ∧ (l = [] ∨ ∃ b o, a = some ⟨b, o, none⟩ ∧ b < w.heap.size ∧ l.length ≤ 9223372036854775807 ∧ ∀ i x, l[i]? = some x → Kn.At w b (o + i * 3) x)
theorem Kn.Cols.later {w w' : World} {v : Value} {l : List Kn.C} (h : Kn.Cols w v l) (g : Below w.heap.size w w') : Kn.Cols w' v l := by
  obtain ⟨a, c, rfl, h⟩ := h
  refine ⟨a, c, rfl, ?_⟩
  rcases h with h | ⟨b, o, rfl, hlt, hm, h⟩
  · exact .inl h
  · refine .inr ⟨b, o, rfl, Nat.lt_of_lt_of_le hlt g.size, hm, fun i x hx => ?_⟩
    exact ⟨(g.cell (p := ⟨b, o + i * 2, none⟩) hlt).trans (h i x hx).1, (g.cell (p := ⟨b, o + i * 2 + 1, none⟩) hlt).trans (h i x hx).2⟩
theorem Kn.Vals.later {w w' : World} {v : Value} {l : List Kn.V} (h : Kn.Vals w v l) (g : Below w.heap.size w w') : Kn.Vals w' v l := by
  obtain ⟨a, c, rfl, h⟩ := h
  refine ⟨a, c, rfl, ?_⟩
  rcases h with h | ⟨b, o, rfl, hlt, hm, h⟩
  · exact .inl h
  · exact .inr ⟨b, o, rfl, Nat.lt_of_lt_of_le hlt g.size, hm, fun i x hx => (h i x hx).later g⟩
/-- The kind is one of the two. -/
def Kn.C.good (c : Kn.C) : Bool := !((c.k != 1) && (c.k != 2))
/-- The first column, if there is one, has no nulls. -/
def Kn.headOk : List Kn.C → Bool
  | [] => true
  | c :: _ => !c.null
/-- Which schemas may be. -/
def Kn.right (l : List Kn.C) : Bool := decide (1 ≤ l.length) && decide (l.length ≤ 6) && Kn.headOk l && l.all Kn.C.good
/-- Which value fits a column. -/
def Kn.fits (c : Kn.C) (v : Kn.V) : Bool :=
  if v.null = true then c.null && (v.n == 0) && (v.s.toList == (⟨#[]⟩ : ByteArray).toList)
  else if c.k = 1 then v.s.toList == (⟨#[]⟩ : ByteArray).toList
  else (v.n == 0) && decide (v.s.size ≤ 64)
theorem Kn.retb {x y : Bool} (h : x = y) : Ending.returned (.bool x) = Ending.returned (.bool y) := by rw [h]
theorem Kn.reti {k : IntKind} {x y : Int} (h : x = y) : Ending.returned (.int k x) = Ending.returned (.int k y) := by rw [h]
theorem Kn.right_long (l : List Kn.C) (h : 6 < l.length) : Kn.right l = false := by
  unfold Kn.right
  rw [decide_eq_false (p := l.length ≤ 6) (by omega)]
  simp
theorem Kn.right_null (l : List Kn.C) (x : Kn.C) (h : l[0]? = some x) (hn : x.null = true) : Kn.right l = false := by
  cases l with
  | nil => cases h
  | cons y t =>
    obtain rfl : y = x := by simpa using h
    simp [Kn.right, Kn.headOk, hn]
theorem Kn.right_bad (l : List Kn.C) (k : Nat) (x : Kn.C) (h : l[k]? = some x) (hb : x.good = false) : Kn.right l = false := by
  have : l.all Kn.C.good = false := by
    rw [Bool.eq_false_iff]
    intro e
    have := List.all_eq_true.1 e x (List.mem_of_getElem? h)
    rw [hb] at this; cases this
  unfold Kn.right
  rw [this]
  simp
theorem Kn.all_step (l : List Kn.C) (k : Nat) (x : Kn.C) (h : l[k]? = some x) (hg : x.good = true) (ha : (l.take k).all Kn.C.good = true) : (l.take (k + 1)).all Kn.C.good = true := by
  rw [List.take_add_one, h, List.all_append, ha]
  simp [hg]
theorem Kn.right_good (l : List Kn.C) (x : Kn.C) (h : l[0]? = some x) (hn : x.null = false) (h6 : l.length ≤ 6) (ha : (l.take l.length).all Kn.C.good = true) : Kn.right l = true := by
  cases l with
  | nil => cases h
  | cons y t =>
    obtain rfl : y = x := by simpa using h
    rw [List.take_length] at ha
    have e : Kn.headOk (y :: t) = true := by show (!y.null) = true; rw [hn]; rfl
    unfold Kn.right
    rw [ha, e, decide_eq_true (by simp), decide_eq_true h6]
    rfl
theorem Kn.good_ways (x : Kn.C) : (x.good = true ∧ (x.k != 1) = false) ∨ (x.good = true ∧ (x.k != 1) = true ∧ (x.k != 2) = false) ∨ (x.good = false ∧ (x.k != 1) = true ∧ (x.k != 2) = true) := by
  unfold Kn.C.good
  cases (x.k != 1) <;> cases (x.k != 2) <;> simp
end Go.Proofs.YtfjhffldhpcdmaaDoor

namespace Go.Proofs.YtfjhffldhpcdmaaDoor
open Go.RowKit
/-- Every value fits its column. -/
def Kn.fitsAll : List Kn.C → List Kn.V → Bool
  | c :: cs, v :: vs => Kn.fits c v && Kn.fitsAll cs vs
  | _, _ => true
/-- The error of a row. -/
def Kn.fitsE (s : List Kn.C) (r : List Kn.V) : Int := if Kn.right s = true then (if r.length = s.length then (if Kn.fitsAll s r = true then 0 else 6) else 7) else 4
/-- The error of a key. -/
def Kn.keyE (s : List Kn.C) (k : Kn.V) : Int := if Kn.right s = true then (match s with | [] => 4 | c :: _ => if Kn.fits c k = true then 0 else 6) else 4
theorem Kn.fitsAll_step (s : List Kn.C) (r : List Kn.V) (k : Nat) (c : Kn.C) (v : Kn.V) (hc : s[k]? = some c) (hv : r[k]? = some v) : Kn.fitsAll (s.drop k) (r.drop k) = (Kn.fits c v && Kn.fitsAll (s.drop (k + 1)) (r.drop (k + 1))) := by
  obtain ⟨h1, rfl⟩ := List.getElem?_eq_some_iff.1 hc
  obtain ⟨h2, rfl⟩ := List.getElem?_eq_some_iff.1 hv
  rw [List.drop_eq_getElem_cons h1, List.drop_eq_getElem_cons h2]
  rfl
theorem Kn.fitsAll_end (s : List Kn.C) (r : List Kn.V) (k : Nat) (h : ¬ k < s.length) : Kn.fitsAll (s.drop k) (r.drop k) = true := by
  rw [List.drop_eq_nil_of_le (by omega)]
  rfl
theorem Kn.fitsE_bad {s : List Kn.C} {r : List Kn.V} (h : Kn.right s = false) : Kn.fitsE s r = 4 := by unfold Kn.fitsE; rw [h]; rfl
theorem Kn.fitsE_len {s : List Kn.C} {r : List Kn.V} (h : Kn.right s = true) (hn : r.length ≠ s.length) : Kn.fitsE s r = 7 := by unfold Kn.fitsE; rw [h, if_pos rfl, if_neg hn]
theorem Kn.fitsE_kind {s : List Kn.C} {r : List Kn.V} (h : Kn.right s = true) (hn : r.length = s.length) (hf : Kn.fitsAll s r = false) : Kn.fitsE s r = 6 := by unfold Kn.fitsE; rw [h, if_pos rfl, if_pos hn, hf]; rfl
theorem Kn.fitsE_ok {s : List Kn.C} {r : List Kn.V} (h : Kn.right s = true) (hn : r.length = s.length) (hf : Kn.fitsAll s r = true) : Kn.fitsE s r = 0 := by unfold Kn.fitsE; rw [h, if_pos rfl, if_pos hn, hf]; rfl
theorem Kn.right_len {s : List Kn.C} (h : Kn.right s = true) : 1 ≤ s.length ∧ s.length ≤ 6 := by
  unfold Kn.right at h
  simp only [Bool.and_eq_true, decide_eq_true_iff] at h
  omega
theorem Kn.right_head {s : List Kn.C} (h : Kn.right s = true) : ∃ x t, s = x :: t ∧ x.null = false ∧ x.good = true := by
  cases s with
  | nil => cases h
  | cons x t =>
    unfold Kn.right at h
    simp only [Bool.and_eq_true, Kn.headOk, List.all_cons, Bool.not_eq_true'] at h
    exact ⟨x, t, rfl, h.1.2, h.2.1⟩
end Go.Proofs.YtfjhffldhpcdmaaDoor

namespace Go.Proofs.YtfjhffldhpcdmaaDoor.Ty

/-- The form of a number: how many of the bounds it reaches. -/
def form (n : Nat) : Nat := if n < 64 then 0 else if n < 16384 then 1 else if n < 1073741824 then 2 else 3
/-- Bytes behind the first one, by form. -/
def after : Nat → Nat
  | 0 => 0
  | 1 => 1
  | 2 => 3
  | _ => 8
/-- The lowest k bytes of n, the most significant one first. -/
def low : Nat → Nat → List UInt8
  | 0, _ => []
  | k + 1, n => UInt8.ofNat (n / 256 ^ k % 256) :: low k n
/-- The first byte of a number. -/
def head (n : Nat) : UInt8 := UInt8.ofNat (64 * form n + (if form n = 3 then 0 else n / 256 ^ after (form n)))
/-- The encoding of an unsigned number. -/
def encU (n : Nat) : List UInt8 := head n :: low (after (form n)) n

theorem form_le (n : Nat) : form n ≤ 3 := by unfold form; (repeat' split) <;> omega

theorem form_is (n : Nat) : (n < 64 ∧ form n = 0) ∨ (¬ n < 64 ∧ n < 16384 ∧ form n = 1) ∨ (¬ n < 16384 ∧ n < 1073741824 ∧ form n = 2) ∨ (¬ n < 1073741824 ∧ form n = 3) := by
  unfold form; (repeat' split) <;> omega

theorem low_length (k n : Nat) : (low k n).length = k := by induction k with
  | zero => rfl
  | succ k ih => simp [low, ih]

theorem or_head : ∀ (f : Fin 4) (x : Fin 64), (64 * f.val ||| x.val) = 64 * f.val + x.val := by decide

theorem or_u8 (f x : Nat) (hf : f < 4) (hx : x < 64) : bits .or .u8 ((64 * f : Nat) : Int) (x : Int) = ((64 * f + x : Nat) : Int) := by
  have h := (bits_nat .u8 8 (by decide) wraps_u8 (64 * f) x (by omega) (by omega)).2
  rw [h, or_head ⟨f, hf⟩ ⟨x, hx⟩]

theorem toNat_ofNat8 (n : Nat) (h : n < 256) : (UInt8.ofNat n).toNat = n := by simp [UInt8.toNat_ofNat']; omega

/-- A number of 64 bits. -/
def U64 (n : Nat) : Prop := n < 2 ^ 64

theorem head_of (n f x : Nat) (C X : Int) (hC : C = ((64 * f : Nat) : Int)) (hX : X = (x : Int)) (hf : f < 4) (hx : x < 64) (hh : head n = UInt8.ofNat (64 * f + x)) : bits .or .u8 C X = ((head n).toNat : Int) := by
  rw [hC, hX, or_u8 f x hf hx, hh, toNat_ofNat8 _ (by omega)]

theorem head0 (n : Nat) (h : form n = 0) : bits .or .u8 0 ((n : Int) % 256) = ((head n).toNat : Int) := by
  have hb := form_is n
  exact head_of n 0 n _ _ rfl (by omega) (by omega) (by omega) (by unfold head; simp [h, after])
theorem head1 (n : Nat) (h : form n = 1) : bits .or .u8 64 ((n : Int) / 256 % 256) = ((head n).toNat : Int) := by
  have hb := form_is n
  exact head_of n 1 (n / 256) _ _ rfl (by omega) (by omega) (by omega) (by unfold head; simp [h, after])
theorem head2 (n : Nat) (h : form n = 2) : bits .or .u8 128 ((n : Int) / 16777216 % 256) = ((head n).toNat : Int) := by
  have hb := form_is n
  exact head_of n 2 (n / 16777216) _ _ rfl (by omega) (by omega) (by omega) (by unfold head; simp [h, after])
theorem head3 (n : Nat) (h : form n = 3) (hn : U64 n) : bits .or .u8 192 ((n : Int) / 18446744073709551616 % 256) = ((head n).toNat : Int) := by
  unfold U64 at hn
  exact head_of n 3 0 _ _ rfl (by omega) (by omega) (by omega) (by unfold head; simp [h])

theorem low_byte (n k : Nat) : ((n : Int) / 2 ^ (8 * k) % 256) = ((UInt8.ofNat (n / 256 ^ k % 256)).toNat : Int) := by
  rw [toNat_ofNat8 _ (Nat.mod_lt _ (by omega))]
  have e : (2 : Int) ^ (8 * k) = ((256 ^ k : Nat) : Int) := by
    rw [Int.pow_mul, Int.natCast_pow]; rfl
  rw [e]
  simp
theorem low_succ (n k : Nat) : low (k + 1) n = UInt8.ofNat (n / 256 ^ k % 256) :: low k n := rfl
theorem encU_split (n : Nat) : encU n = [head n] ++ low (after (form n)) n := rfl
theorem encU_length (n : Nat) : (encU n).length = 1 + after (form n) := by simp [encU, low_length]; omega
theorem after_le (n : Nat) : after (form n) ≤ 8 := by
  rcases form_is n with ⟨_, h⟩ | ⟨_, _, h⟩ | ⟨_, _, h⟩ | ⟨_, h⟩ <;> rw [h] <;> decide
/-- A signed number as an unsigned one. -/
def zig (n : Int) : Int := if 0 ≤ n then 2 * n else -2 * n - 1
/-- And back. -/
def zag (n : Int) : Int := if n % 2 = 1 then -(n / 2) - 1 else n / 2
/-- A signed number of 64 bits. -/
def I64 (n : Int) : Prop := -9223372036854775808 ≤ n ∧ n ≤ 9223372036854775807
theorem zig_nonneg (n : Int) : 0 ≤ zig n := by unfold zig; split <;> omega
theorem zig_u64 {n : Int} (h : I64 n) : U64 (zig n).toNat := by unfold zig U64; unfold I64 at h; split <;> omega
theorem zag_i64 {n : Nat} (h : U64 n) : I64 (zag n) := by unfold zag I64; unfold U64 at h; split <;> omega
theorem zag_zig (n : Int) : zag (zig n) = n := by unfold zag zig; (repeat' split) <;> omega
theorem zig_zag {n : Int} (h : 0 ≤ n) : zig (zag n) = n := by unfold zag zig; (repeat' split) <;> omega
theorem encU_len9 (n : Nat) : (encU n).length ≤ 9 := by rw [encU_length]; have := after_le n; omega
end Go.Proofs.YtfjhffldhpcdmaaDoor.Ty

namespace Go.Proofs.YtfjhffldhpcdmaaDoor.Ty
theorem wrapu64 (n : Int) (h0 : 0 ≤ n) (h1 : n < 2 ^ 64) : IntKind.u64.wrap n = n := by rw [IntKind.wrap_u64]; omega

/-- What the first k bytes of l spell, of the first one its lowest six bits. -/
def pv (l : List UInt8) : Nat → Nat
  | 0 => 0
  | 1 => (l.getD 0 0).toNat % 64
  | k + 2 => pv l (k + 1) * 256 + (l.getD (k + 1) 0).toNat
/-- The smallest number of a form. -/
def small : Nat → Nat
  | 0 => 0
  | 1 => 64
  | 2 => 16384
  | _ => 1073741824
/-- What is read at the beginning of l: the number, how many bytes it takes, the error. -/
def num (l : List UInt8) : Nat × Nat × Nat :=
  match l with
  | [] => (0, 0, 2)
  | b :: r => if 192 < b.toNat then (0, 0, 5) else if (b :: r).length < 1 + after (b.toNat / 64) then (0, 0, 2) else
    if pv (b :: r) (1 + after (b.toNat / 64)) < small (b.toNat / 64) then (0, 0, 5) else (pv (b :: r) (1 + after (b.toNat / 64)), 1 + after (b.toNat / 64), 0)
theorem pv_succ (l : List UInt8) (k : Nat) (hk : 1 ≤ k) : pv l (k + 1) = pv l k * 256 + (l.getD k 0).toNat := by
  match k, hk with
  | k + 1, _ => rfl
theorem pv_lt (l : List UInt8) : ∀ k, pv l (k + 1) < 64 * 256 ^ k
  | 0 => by simp [pv]; omega
  | k + 1 => by
    have := pv_lt l k
    have h2 := (l.getD (k + 1) 0).toNat_lt
    rw [pv_succ l (k + 1) (by omega), Nat.pow_succ]
    omega
theorem pv_lt9 (l : List UInt8) (h : (l.getD 0 0).toNat % 64 = 0) : ∀ k, pv l (k + 1) < 256 ^ k
  | 0 => by simp [pv]; simpa using h
  | k + 1 => by
    have := pv_lt9 l h k
    have h2 := (l.getD (k + 1) 0).toNat_lt
    rw [pv_succ l (k + 1) (by omega), Nat.pow_succ]
    omega
theorem or_byte (p b : Nat) (hp : p < 72057594037927936) (hb : b < 256) : bits .or .u64 ((p * 256 : Nat) : Int) (b : Int) = ((p * 256 + b : Nat) : Int) := by
  have h := (bits_nat .u64 64 (by decide) wrapu64 (p * 256) b (by omega) (by omega)).2
  rw [h]
  have := Nat.two_pow_add_eq_or_of_lt (i := 8) (b := b) (by omega) p
  rw [Nat.mul_comm p 256]
  exact congrArg Int.ofNat this.symm
/-- What is read as a string of at most most bytes at the beginning of l: its bytes, how many bytes it takes, the error. -/
def txt (l : List UInt8) (most : Int) : List UInt8 × Nat × Nat :=
  if (num l).2.2 ≠ 0 then ([], 0, (num l).2.2) else if most < 0 ∨ most < ((num l).1 : Int) then ([], 0, 3) else
    if l.length - (num l).2.1 < (num l).1 then ([], 0, 2) else ((l.drop (num l).2.1).take (num l).1, (num l).2.1 + (num l).1, 0)
theorem num_nil : num [] = (0, 0, 2) := rfl
theorem num_is (l : List UInt8) (h : 0 < l.length) : num l = if 192 < (l.getD 0 0).toNat then (0, 0, 5) else if l.length < 1 + after ((l.getD 0 0).toNat / 64) then (0, 0, 2) else
    if pv l (1 + after ((l.getD 0 0).toNat / 64)) < small ((l.getD 0 0).toNat / 64) then (0, 0, 5) else (pv l (1 + after ((l.getD 0 0).toNat / 64)), 1 + after ((l.getD 0 0).toNat / 64), 0) := by
  cases l with
  | nil => simp at h
  | cons b r => rfl
theorem num_high {l : List UInt8} (h : 0 < l.length) (hb : 192 < (l.getD 0 0).toNat) : num l = (0, 0, 5) := by rw [num_is l h, if_pos hb]
theorem num_cut {l : List UInt8} (h : 0 < l.length) (hb : ¬ 192 < (l.getD 0 0).toNat) {f : Nat} (hf : (l.getD 0 0).toNat / 64 = f) (hl : l.length < 1 + after f) : num l = (0, 0, 2) := by rw [num_is l h, if_neg hb, hf, if_pos hl]
theorem num_less {l : List UInt8} (h : 0 < l.length) (hb : ¬ 192 < (l.getD 0 0).toNat) {f : Nat} (hf : (l.getD 0 0).toNat / 64 = f) (hl : ¬ l.length < 1 + after f) (hp : pv l (1 + after f) < small f) : num l = (0, 0, 5) := by rw [num_is l h, if_neg hb, hf, if_neg hl, if_pos hp]
theorem num_whole {l : List UInt8} (h : 0 < l.length) (hb : ¬ 192 < (l.getD 0 0).toNat) {f : Nat} (hf : (l.getD 0 0).toNat / 64 = f) (hl : ¬ l.length < 1 + after f) (hp : ¬ pv l (1 + after f) < small f) : num l = (pv l (1 + after f), 1 + after f, 0) := by rw [num_is l h, if_neg hb, hf, if_neg hl, if_neg hp]
/-- A byte more: what the program computes is what is meant. -/
theorem or_step (l : List UInt8) (b : UInt8) (k : Nat) (hk : 1 ≤ k) (hp : pv l k < 72057594037927936) (hb : b = l.getD k 0) :
    bits .or .u64 (IntKind.u64.wrap ((pv l k : Int) * 256)) (IntKind.u64.wrap (b.toNat : Int)) = (pv l (k + 1) : Int) := by
  have h2 := b.toNat_lt
  rw [wrapu64 _ (by omega) (by omega), wrapu64 _ (by omega) (by omega), pv_succ l k hk, ← hb]
  exact or_byte (pv l k) b.toNat hp (by omega)
theorem pv_small4 (l : List UInt8) (k : Nat) (h1 : 1 ≤ k) (h : k ≤ 4) : pv l k < 72057594037927936 := by
  have := pv_lt l (k - 1)
  rw [show k - 1 + 1 = k by omega] at this
  have h2 : 256 ^ (k - 1) ≤ 256 ^ 3 := Nat.pow_le_pow_right (by omega) (by omega)
  have h3 : (256 : Nat) ^ 3 = 16777216 := by decide
  omega
theorem pv_small8 (l : List UInt8) (h0 : (l.getD 0 0).toNat % 64 = 0) (k : Nat) (h1 : 1 ≤ k) (h : k ≤ 8) : pv l k < 72057594037927936 := by
  have := pv_lt9 l h0 (k - 1)
  rw [show k - 1 + 1 = k by omega] at this
  have h2 : 256 ^ (k - 1) ≤ 256 ^ 7 := Nat.pow_le_pow_right (by omega) (by omega)
  have h3 : (256 : Nat) ^ 7 = 72057594037927936 := by decide
  omega
theorem num_cases (l : List UInt8) : (num l).2.2 = 0 ∧ l ≠ [] ∧ (∃ f, f ≤ 3 ∧ 64 * f ≤ (l.getD 0 0).toNat ∧ (l.getD 0 0).toNat < 64 * f + 64 ∧ (l.getD 0 0).toNat ≤ 192 ∧ num l = (pv l (1 + after f), 1 + after f, 0) ∧ 1 + after f ≤ l.length ∧ small f ≤ pv l (1 + after f)) ∨
    ((num l).2.2 = 2 ∨ (num l).2.2 = 5) ∧ (num l).1 = 0 ∧ (num l).2.1 = 0 := by
  by_cases h0 : 0 < l.length
  · by_cases h1 : 192 < (l.getD 0 0).toNat
    · right; rw [num_high h0 h1]; simp
    · obtain ⟨f, hf⟩ : ∃ f, (l.getD 0 0).toNat / 64 = f := ⟨_, rfl⟩
      by_cases h2 : l.length < 1 + after f
      · right; rw [num_cut h0 h1 hf h2]; simp
      · by_cases h3 : pv l (1 + after f) < small f
        · right; rw [num_less h0 h1 hf h2 h3]; simp
        · left
          have e := num_whole h0 h1 hf h2 h3
          exact ⟨by rw [e], by intro e; subst e; simp at h0, f, by omega, by omega, by omega, by omega, e, by omega, by omega⟩
  · right
    have : l = [] := List.eq_nil_of_length_eq_zero (by omega)
    subst this
    simp [num]
theorem num_u64 (l : List UInt8) : U64 (num l).1 := by
  rcases num_cases l with ⟨_, _, f, hf, h1, h2, h3, e, _, _⟩ | ⟨_, h, _⟩
  · rw [e]
    unfold U64
    rcases (by omega : f = 0 ∨ f = 1 ∨ f = 2 ∨ f = 3) with rfl | rfl | rfl | rfl
    · have := pv_lt l 0; show pv l (0 + 1) < 2 ^ 64; omega
    · have := pv_lt l 1; show pv l (1 + 1) < 2 ^ 64; omega
    · have := pv_lt l 3; show pv l (3 + 1) < 2 ^ 64; omega
    · have := pv_lt9 l (by omega) 8; show pv l (8 + 1) < 2 ^ 64; omega
  · rw [h]; unfold U64; omega
theorem num_size (l : List UInt8) : (num l).2.1 ≤ l.length := by
  rcases num_cases l with ⟨_, _, f, hf, h1, h2, h3, e, hl, _⟩ | ⟨_, _, h⟩
  · rw [e]; exact hl
  · rw [h]; omega
theorem num_size9 (l : List UInt8) : (num l).2.1 ≤ 9 := by
  rcases num_cases l with ⟨_, _, f, hf, h1, h2, h3, e, hl, _⟩ | ⟨_, _, h⟩
  · rw [e]
    rcases (by omega : f = 0 ∨ f = 1 ∨ f = 2 ∨ f = 3) with rfl | rfl | rfl | rfl <;> simp [after]
  · rw [h]; omega
theorem num_err (l : List UInt8) (h : (num l).2.2 ≠ 0) : (num l).1 = 0 ∧ (num l).2.1 = 0 := by
  rcases num_cases l with ⟨h0, _⟩ | ⟨_, h1, h2⟩
  · exact absurd h0 h
  · exact ⟨h1, h2⟩
theorem txt_bad {l : List UInt8} {most : Int} (h : (num l).2.2 ≠ 0) : txt l most = ([], 0, (num l).2.2) := by unfold txt; rw [if_pos h]
theorem txt_long {l : List UInt8} {most : Int} (h : (num l).2.2 = 0) (h2 : most < 0 ∨ most < ((num l).1 : Int)) : txt l most = ([], 0, 3) := by unfold txt; rw [if_neg (by omega), if_pos h2]
theorem txt_short {l : List UInt8} {most : Int} (h : (num l).2.2 = 0) (h2 : ¬ (most < 0 ∨ most < ((num l).1 : Int))) (h3 : l.length - (num l).2.1 < (num l).1) : txt l most = ([], 0, 2) := by unfold txt; rw [if_neg (by omega), if_neg h2, if_pos h3]
theorem txt_whole {l : List UInt8} {most : Int} (h : (num l).2.2 = 0) (h2 : ¬ (most < 0 ∨ most < ((num l).1 : Int))) (h3 : ¬ l.length - (num l).2.1 < (num l).1) : txt l most = ((l.drop (num l).2.1).take (num l).1, (num l).2.1 + (num l).1, 0) := by unfold txt; rw [if_neg (by omega), if_neg h2, if_neg h3]
theorem txt_size (l : List UInt8) (most : Int) : (txt l most).2.1 ≤ l.length := by
  have := num_size l
  unfold txt
  split
  · simp
  · split
    · simp
    · split
      · simp
      · simp only; omega
end Go.Proofs.YtfjhffldhpcdmaaDoor.Ty

namespace Go.Proofs.YtfjhffldhpcdmaaDoor.Ty
theorem lt_ofNat8 (a b : Nat) (ha : a < 256) (hb : b < 256) : (UInt8.ofNat a < UInt8.ofNat b) ↔ a < b := by
  rw [UInt8.lt_iff_toNat_lt, toNat_ofNat8 a ha, toNat_ofNat8 b hb]
theorem less_cons {a b : UInt8} {x y : List UInt8} (h : a < b) : Op.bytesLess (a :: x) (b :: y) = true := by simp [Op.bytesLess, h]
theorem less_same {a : UInt8} {x y : List UInt8} (h : Op.bytesLess x y = true) : Op.bytesLess (a :: x) (a :: y) = true := by simp [Op.bytesLess, h]
theorem less_irrefl : ∀ l : List UInt8, Op.bytesLess l l = false
  | [] => rfl
  | a :: l => by simp [Op.bytesLess, less_irrefl l]
theorem mod_split (n P : Nat) : n % (256 * P) = n / P % 256 * P + n % P := by
  rw [Nat.mul_comm 256 P, Nat.mod_mul, Nat.add_comm, Nat.mul_comm]
theorem low_less : ∀ (k a b : Nat), a % 256 ^ k < b % 256 ^ k → Op.bytesLess (low k a) (low k b) = true
  | 0, a, b, h => by simp [Nat.mod_one] at h
  | k + 1, a, b, h => by
    have hP : 0 < 256 ^ k := Nat.pow_pos (by omega)
    rw [Nat.pow_succ, Nat.mul_comm (256 ^ k) 256, mod_split a, mod_split b] at h
    have ra := Nat.mod_lt a hP
    have rb := Nat.mod_lt b hP
    have da := Nat.mod_lt (a / 256 ^ k) (by omega : 0 < 256)
    have db := Nat.mod_lt (b / 256 ^ k) (by omega : 0 < 256)
    rw [low_succ, low_succ]
    rcases Nat.lt_trichotomy (a / 256 ^ k % 256) (b / 256 ^ k % 256) with hl | he | hg
    · exact less_cons ((lt_ofNat8 _ _ da db).2 hl)
    · rw [he]
      rw [he] at h
      exact less_same (low_less k a b (by omega))
    · exfalso
      have := Nat.mul_le_mul_right (256 ^ k) (show b / 256 ^ k % 256 + 1 ≤ a / 256 ^ k % 256 by omega)
      rw [Nat.add_mul, Nat.one_mul] at this
      omega
theorem head_is (n : Nat) : (head n).toNat = 64 * form n + (if form n = 3 then 0 else n / 256 ^ after (form n)) ∧ (form n ≠ 3 → n / 256 ^ after (form n) < 64) := by
  rcases form_is n with ⟨h1, h⟩ | ⟨_, h1, h⟩ | ⟨_, h1, h⟩ | ⟨_, h⟩
  · have e : n / 256 ^ 0 = n := by simp
    refine ⟨?_, fun _ => by rw [h]; show n / 256 ^ 0 < 64; omega⟩
    unfold head
    rw [h, toNat_ofNat8 _ (by rw [if_neg (by omega)]; show 64 * 0 + n / 256 ^ 0 < 256; omega)]
  · have e : (256 : Nat) ^ 1 = 256 := by decide
    refine ⟨?_, fun _ => by rw [h]; show n / 256 ^ 1 < 64; omega⟩
    unfold head
    rw [h, toNat_ofNat8 _ (by rw [if_neg (by omega)]; show 64 * 1 + n / 256 ^ 1 < 256; omega)]
  · have e : (256 : Nat) ^ 3 = 16777216 := by decide
    refine ⟨?_, fun _ => by rw [h]; show n / 256 ^ 3 < 64; omega⟩
    unfold head
    rw [h, toNat_ofNat8 _ (by rw [if_neg (by omega)]; show 64 * 2 + n / 256 ^ 3 < 256; omega)]
  · refine ⟨?_, fun hh => absurd h hh⟩
    unfold head
    rw [h, toNat_ofNat8 _ (by rw [if_pos rfl]; omega)]
theorem encU_less (x y : Nat) (hx : U64 x) (hy : U64 y) (h : x < y) (hf : form x = form y) : Op.bytesLess (encU x) (encU y) = true := by
  have h1 := head_is x
  have h2 := head_is y
  unfold encU
  by_cases h3 : form x = 3
  · have e : head x = head y := UInt8.toNat_inj.1 (by rw [h1.1, h2.1, ← hf, h3]; rfl)
    rw [e, ← hf, h3]
    refine less_same (low_less 8 x y ?_)
    have e8 : (256 : Nat) ^ 8 = 18446744073709551616 := by decide
    unfold U64 at hx hy
    rw [Nat.mod_eq_of_lt (by omega), Nat.mod_eq_of_lt (by omega)]
    exact h
  · have hP : 0 < 256 ^ after (form x) := Nat.pow_pos (by omega)
    have a1 := h1.1
    have a2 := h2.1
    rw [if_neg h3] at a1
    rw [← hf, if_neg h3] at a2
    have hle : x / 256 ^ after (form x) ≤ y / 256 ^ after (form x) := Nat.div_le_div_right (by omega)
    rcases Nat.lt_or_eq_of_le hle with hl | he
    · exact less_cons (UInt8.lt_iff_toNat_lt.2 (by omega))
    · have e : head x = head y := UInt8.toNat_inj.1 (by omega)
      rw [e, ← hf]
      refine less_same (low_less _ x y ?_)
      have q1 := Nat.div_add_mod x (256 ^ after (form x))
      have q2 := Nat.div_add_mod y (256 ^ after (form x))
      rw [← he] at q2
      omega
theorem form_mono (x y : Nat) (h : x < y) : form x ≤ form y := by
  rcases form_is x with ⟨_, a⟩ | ⟨_, _, a⟩ | ⟨_, _, a⟩ | ⟨_, a⟩ <;> rcases form_is y with ⟨_, b⟩ | ⟨_, _, b⟩ | ⟨_, _, b⟩ | ⟨_, b⟩ <;> rw [a, b] <;> omega
theorem encU_order (x y : Nat) (hx : U64 x) (hy : U64 y) (h : x < y) : encU x ≠ encU y ∧ ((encU x).length < (encU y).length ∨ ((encU x).length = (encU y).length ∧ Op.bytesLess (encU x) (encU y) = true)) := by
  rcases Nat.lt_or_eq_of_le (form_mono x y h) with hl | he
  · have hlen : (encU x).length < (encU y).length := by
      rw [encU_length, encU_length]
      have := form_le y
      rcases (by omega : (form x = 0 ∧ form y = 1) ∨ (form x = 0 ∧ form y = 2) ∨ (form x = 0 ∧ form y = 3) ∨ (form x = 1 ∧ form y = 2) ∨ (form x = 1 ∧ form y = 3) ∨ (form x = 2 ∧ form y = 3)) with ⟨a, b⟩ | ⟨a, b⟩ | ⟨a, b⟩ | ⟨a, b⟩ | ⟨a, b⟩ | ⟨a, b⟩ <;> rw [a, b] <;> decide
    exact ⟨fun e => by rw [e] at hlen; omega, .inl hlen⟩
  · have hb := encU_less x y hx hy h he
    exact ⟨fun e => (by rw [e, less_irrefl] at hb; cases hb), .inr ⟨by rw [encU_length, encU_length, he], hb⟩⟩
theorem encU_inj (x y : Nat) (hx : U64 x) (hy : U64 y) (h : encU x = encU y) : x = y := by
  rcases Nat.lt_trichotomy x y with hl | he | hg
  · exact absurd h (encU_order x y hx hy hl).1
  · exact he
  · exact absurd h.symm (encU_order y x hy hx hg).1
end Go.Proofs.YtfjhffldhpcdmaaDoor.Ty
