/-
  The laws of skip: the program's list and the document's side by side, and a block of the law's own.
  A region that draws its order, walked by hand: one operation alone; the condition that is held made stronger on the way. No program.
-/
import Derived.Test.YtfjhffldhpcdmaaDoorZAN
import Derived.Test.YtfjhffldhpcdmaaDoorZAF
import Derived.Test.YtfjhffldhpcdmaaDoorZAK
import Derived.Test.YtfjhffldhpcdmaaDoorRows
import Derived.OrdersHeld
import Derived.Deep.RegionHeld3
import Derived.OrdersIn
import Derived.RangeFuncCalls
import Derived.TacticsIn
namespace Go.Proofs.YtfjhffldhpcdmaaDoor
open Go Go.RowKit Go.Shelf
/-- Both lists, and a block that neither of them owns. -/
structure Sk.Tri (w0 W : World) (p q c : Nat) (o : Obj) (M : List Dd.D) (N : List Sk.E) : Prop where
  all : ∃ S S' v, Sk.PD w0.heap.size S W p M ∧ Sk.RL S' w0.heap.size W q v N ∧ (∀ b, S b → ¬ S' b) ∧ ¬ S c ∧ ¬ S' c
  at_ : W.heap[c]? = some o
  below : Below w0.heap.size w0 W
theorem Sk.Tri.lt {w0 W : World} {p q c : Nat} {o : Obj} {M : List Dd.D} {N : List Sk.E} (h : Sk.Tri w0 W p q c o M N) : c < W.heap.size := (Array.getElem?_eq_some_iff.1 h.at_).1
theorem Sk.Tri.later {w0 W W' : World} {p q c : Nat} {o : Obj} {M : List Dd.D} {N : List Sk.E} (h : Sk.Tri w0 W p q c o M N) (g : Below W.heap.size W W') : Sk.Tri w0 W' p q c o M N := by
  obtain ⟨S, S', v, h1, h2, h3, h4, h5⟩ := h.all
  exact ⟨⟨S, S', v, h1.later g, h2.kept g, h3, h4, h5⟩, (g.block c h.lt).trans h.at_, h.below.trans (g.mono h.below.size)⟩
theorem Sk.Tri.aput {w0 W : World} {p q c : Nat} {o : Obj} {M : List Dd.D} {N : List Sk.E} (h : Sk.Tri w0 W p q c o M N) (hT : Sk.Tab w0) {x : Sk.E} (hx : Sk.Got w0 x.rv x.row) (hl : M.length ≤ 100000) :
    Calls Tryd.prog 12 #[.pointer (some ⟨p, 0, none⟩), .agg #[.bool x.gone, x.rv]] W fun e w' => e = .returned (.bool (!x.row.isEmpty)) ∧ Sk.Tri w0 w' p q c o (Sk.pd M x.d) N ∧ Below w0.heap.size W w' := by
  obtain ⟨S, S', v, h1, h2, h3, h5, h6⟩ := h.all
  refine (h1.step h.below.size (hT.later h.below hT.lt) hT.lt (hx.later h.below) hl).mono ?_
  rintro e w' ⟨he, ⟨S1, g1, g2⟩, g3, g4⟩
  refine ⟨he, ⟨⟨S1, S', v, g1, h2.same g3.size (fun b hb => g3.block b (h2.alive b hb) fun h => h3 b h hb) g4, fun b hb h => ?_, fun hc => ?_, h6⟩, (g3.block c h.lt h5).trans h.at_, h.below.trans g4⟩, g4⟩
  · rcases g2 b hb with hb | hb
    · exact h3 b hb h
    · have := h2.alive b h
      omega
  · rcases g2 c hc with hb | hb
    · exact h5 hb
    · have := h.lt
      omega
theorem Sk.Tri.rput {w0 W : World} {p q c : Nat} {o : Obj} {M : List Dd.D} {N : List Sk.E} (h : Sk.Tri w0 W p q c o M N) {x : Sk.E} (hx : Sk.Got w0 x.rv x.row) (hl : N.length ≤ 100000) :
    Calls Tryd.prog 13 #[.pointer (some ⟨q, 0, none⟩), .agg #[.bool x.gone, x.rv]] W fun e w' => e = .returned (.bool (!x.row.isEmpty)) ∧ Sk.Tri w0 w' p q c o M (Sk.pe N x) ∧ Below w0.heap.size W w' := by
  obtain ⟨S, S', v, h1, h2, h3, h5, h6⟩ := h.all
  have hr : Sk.Row w0.heap.size W x.rv x.row := (hx.row (Nat.le_refl _)).below h.below
  refine (h2.step (hx.later h.below) hr hl).mono ?_
  rintro e w' ⟨he, ⟨S1, v1, g1, g2⟩, g3, g4⟩
  refine ⟨he, ⟨⟨S, S1, v1, h1.same g3.size (fun b hb => g3.block b (h1.lt b hb) (h3 b hb)), g1, fun b hb h => ?_, h5, fun hc => ?_⟩, (g3.block c h.lt h6).trans h.at_, h.below.trans g4⟩, g4⟩
  · rcases g2 b h with h | h
    · exact h3 b hb h
    · have := h1.lt b hb
      omega
  · rcases g2 c hc with hb | hb
    · exact h6 hb
    · have := h.lt
      omega
theorem Sk.Tri.len {w0 W : World} {p q c : Nat} {o : Obj} {M : List Dd.D} {N : List Sk.E} (h : Sk.Tri w0 W p q c o M N) :
    Calls Tryd.prog 14 #[.pointer (some ⟨p, 0, none⟩)] W fun e w' => e = .returned (.int .i64 (M.length : Int)) ∧ w' = W := by
  obtain ⟨S, S', v, h1, _⟩ := h.all
  exact h1.len
theorem Sk.Tri.bytes {w0 W : World} {p q c : Nat} {o : Obj} {M : List Dd.D} {N : List Sk.E} (h : Sk.Tri w0 W p q c o M N) :
    Calls Tryd.prog 15 #[.pointer (some ⟨p, 0, none⟩)] W fun e w' => e = .returned (.int .i64 (wrap64 (Sk.bytes M : Int))) ∧ w' = W := by
  obtain ⟨S, S', v, h1, _⟩ := h.all
  exact h1.bytes
theorem Sk.Tri.rbytes {w0 W : World} {p q c : Nat} {o : Obj} {M : List Dd.D} {N : List Sk.E} (h : Sk.Tri w0 W p q c o M N) (hl : N.length ≤ 1000000) :
    Calls Tryd.prog 16 #[.pointer (some ⟨q, 0, none⟩)] W fun e w' => e = .returned (.int .i64 (wrap64 (Sk.bytes (N.map Sk.E.d) : Int))) ∧ w' = W := by
  obtain ⟨S, S', v, h1, h2, _⟩ := h.all
  exact Sk.rbytes_c h2 hl
theorem Sk.Tri.head {w0 W : World} {p q c : Nat} {o : Obj} {M : List Dd.D} {N : List Sk.E} (h : Sk.Tri w0 W p q c o M N) : ∃ a cc, W.cell? ⟨q, 0, none⟩ = some (.slice a N.length cc) := by
  obtain ⟨S, S', v, h1, h2, _⟩ := h.all
  obtain ⟨a, cc, rfl⟩ := h2.slice
  exact ⟨a, cc, Sk.cell_blk h2.blk⟩
theorem Sk.Tri.get {w0 W : World} {p q c : Nat} {o : Obj} {M : List Dd.D} {N : List Sk.E} (h : Sk.Tri w0 W p q c o M N) (k : Kn.V) :
    Calls Tryd.prog 17 #[.pointer (some ⟨p, 0, none⟩), k.val] W (Sk.GetP (Sk.get Sk.kd M k) W) := by
  obtain ⟨S, S', v, h1, _⟩ := h.all
  exact h1.get k
theorem Sk.Tri.rget {w0 W : World} {p q c : Nat} {o : Obj} {M : List Dd.D} {N : List Sk.E} (h : Sk.Tri w0 W p q c o M N) (k : Kn.V) (hk : Kn.Z k) (hl : N.length ≤ 1000000) :
    Calls Tryd.prog 18 #[.pointer (some ⟨q, 0, none⟩), k.val] W fun e w' => e = .returned (Sk.getV (Sk.get Sk.ke N k)) ∧ Below W.heap.size W w' := by
  obtain ⟨S, S', v, h1, h2, _⟩ := h.all
  exact Sk.rget_c h2 k hk hl
/-- At the start. -/
theorem Sk.Tri.new {w0 W W1 : World} {p : Nat} {S : Nat → Prop} {c : Nat} {o : Obj} (h : Sk.PD w0.heap.size S W p []) (g : Below w0.heap.size w0 W) (hW : W1 = ((W.alloc (.cells #[.slice none 0 0] 32)).alloc o)) (hc : c = W.heap.size + 1) :
    Sk.Tri w0 W1 p W.heap.size c o [] [] := by
  subst hc
  obtain ⟨WX, hWX⟩ : ∃ WX, WX = W.alloc (.cells #[.slice none 0 0] 32) := ⟨_, rfl⟩
  have hsz : WX.heap.size = W.heap.size + 1 := by rw [hWX]; simp
  obtain ⟨S1, S', v, h1, h2, h3, h4⟩ := Sk.Two.new h g
  rw [← hWX] at h1 h2 h4 hW
  have ga : Below WX.heap.size WX W1 := by rw [hW]; exact (Below.refl _ WX).alloc (Nat.le_refl _) o
  refine ⟨⟨S1, S', v, h1.later ga, h2.kept ga, h3, fun hb => ?_, fun hb => ?_⟩, by rw [hW, ← hsz]; exact heap_alloc_new WX o, h4.trans (ga.mono h4.size)⟩
  · have := h1.lt _ hb
    omega
  · have := h2.alive _ hb
    omega
/-- What the two 'Get's tell is the same. -/
theorem Sk.get_same {N : List Sk.E} (k : Kn.V) : Sk.get Sk.kd (N.map Sk.E.d) k = (Sk.get Sk.ke N k).map Sk.E.d := Sk.map_get (key := Sk.ke) Sk.E.d Sk.kd (fun _ => rfl) N k
theorem Sk.get_in {N : List Sk.E} {k : Kn.V} {x : Sk.E} (h : Sk.get Sk.ke N k = some x) : x ∈ N := by
  unfold Sk.get at h
  split at h
  · exact List.mem_of_getElem? h
  · cases h
theorem Sk.Rw.vals {base : Nat} {w : World} {v : Value} {l : List Kn.V} (h : Sk.Rw base w v l) : Kn.Vals w v l := by
  rcases h.form with ⟨rfl, rfl⟩ | ⟨g, c, rfl, hc, hm, _, hg⟩
  · exact ⟨none, 0, rfl, .inl rfl⟩
  · refine ⟨_, c, rfl, .inr ⟨g, 0, rfl, hg, by unfold maxLen at hm; omega, fun i x hx => ?_⟩⟩
    rw [Nat.zero_add]
    exact ⟨h.cell Sk.ve_len (g := g) rfl hx (j := 0) (by decide), h.cell Sk.ve_len (g := g) rfl hx (j := 1) (by decide), h.cell Sk.ve_len (g := g) rfl hx (j := 2) (by decide)⟩
/-- What both 'Get's tell: whether the key is there, and the deed. -/
theorem Sk.Tri.get2 {w0 W : World} {p q c : Nat} {o : Obj} {N : List Sk.E} (h : Sk.Tri w0 W p q c o (N.map Sk.E.d) N) (k : Kn.V) (hk : Kn.Z k) (hl : N.length ≤ 1000000) :
    ∃ (g : Bool) (r : List Kn.V) (yes : Bool) (ra : Option Addr) (rc : Nat),
      Calls Tryd.prog 17 #[.pointer (some ⟨p, 0, none⟩), k.val] W (fun e w' => ∃ ua uc, e = .returned (.tuple #[.agg #[.bool g, .slice ua r.length uc], .bool yes]) ∧ Kn.Vals w' (.slice ua r.length uc) r ∧ Below W.heap.size W w') ∧
      ∀ W', Below W.heap.size W W' → Calls Tryd.prog 18 #[.pointer (some ⟨q, 0, none⟩), k.val] W' (fun e w' => e = .returned (.tuple #[.agg #[.bool g, .slice ra r.length rc], .bool yes]) ∧ Kn.Vals w' (.slice ra r.length rc) r ∧ Below W'.heap.size W' w') := by
  have h1 := h.get k
  rw [Sk.get_same] at h1
  have h2 : ∀ W', Below W.heap.size W W' → Calls Tryd.prog 18 #[.pointer (some ⟨q, 0, none⟩), k.val] W' fun e w' => e = .returned (Sk.getV (Sk.get Sk.ke N k)) ∧ Below W'.heap.size W' w' := fun W' g => (h.later g).rget k hk hl
  cases ho : Sk.get Sk.ke N k with
  | none =>
    rw [ho] at h1 h2
    refine ⟨false, [], false, none, 0, h1.mono ?_, fun W' g => (h2 W' g).mono ?_⟩
    · rintro e w' ⟨rfl, g⟩
      exact ⟨none, 0, rfl, ⟨none, 0, rfl, .inl rfl⟩, g⟩
    · rintro e w' ⟨rfl, g⟩
      exact ⟨rfl, ⟨none, 0, rfl, .inl rfl⟩, g⟩
  | some x =>
    rw [ho] at h1 h2
    obtain ⟨S, S', v, _, hr, _⟩ := h.all
    have hx := (hr.rows x (Sk.get_in ho)).1
    obtain ⟨ra, rc, hrv, _⟩ := id hx
    refine ⟨x.gone, x.row, true, ra, rc, h1.mono ?_, fun W' g => (h2 W' g).mono ?_⟩
    · rintro e w' ⟨u, rfl, hu, g⟩
      have hv := hu.vals
      rcases hu.form with ⟨rfl, e0⟩ | ⟨gg, cc, rfl, _⟩
      · have e1 : x.row.length = 0 := by rw [show x.row = [] from e0]; rfl
        exact ⟨none, 0, by rw [e1]; rfl, by rw [e1]; exact hv, g⟩
      · exact ⟨_, cc, rfl, hv, g⟩
    · rintro e w' ⟨rfl, g'⟩
      refine ⟨by rw [← hrv]; rfl, ?_, g'⟩
      rw [← hrv]
      exact (((hx.below (g.mono hr.le))).below (g'.mono (Nat.le_trans hr.le g.size))).vals
/-- What the laws ask of the document's list, in every world behind. -/
theorem Sk.RL.item {S : Nat → Prop} {B : Nat} {w W : World} {p : Nat} {v : Value} {L : List Sk.E} (h : Sk.RL S B w p v L) (g : Below w.heap.size w W) {i : Nat} {y : Sk.E} (hy : L[i]? = some y) :
    ∃ b c ra rc, v = .slice (some ⟨b, 0, none⟩) L.length c ∧ y.rv = .slice ra y.row.length rc ∧ W.cell? ⟨b, i * 2, none⟩ = some (.bool y.gone) ∧ W.cell? ⟨b, i * 2 + 1, none⟩ = some (.slice ra y.row.length rc) ∧ Kn.Vals W (.slice ra y.row.length rc) y.row := by
  obtain ⟨b, c, rb, ro, rn, rc, hv, hc, _⟩ := (h.kept g).cell hy
  have hr := (h.rows y (List.mem_of_getElem? hy)).1
  obtain ⟨ra, rc', hrv, _⟩ := id hr
  have hvals := (hr.below (g.mono h.le)).vals
  rw [hrv] at hvals
  have h1 := hc.c
  rw [← hc.rv, hrv] at h1
  exact ⟨b, c, ra, rc', hv, hrv, hc.c0, h1, hvals⟩
end Go.Proofs.YtfjhffldhpcdmaaDoor

namespace Go.Proofs.YtfjhffldhpcdmaaDoor
open Go
section
variable {P : Program} {ops : Array Oper} {Q : Exit → Act → World → Prop} {md : Region.Mode} {S S' : World → Prop}
/-- One operation alone may come up. -/
theorem Sk.held_one {i : Nat} {o : Oper} {fuel : Nat} {listed : Array Bool} {a : Act} {w : World} (hr : Region.ready md ops listed = [i]) (ho : ops[i]? = some o)
    (h : ∀ K' : Act → World → Prop, Shut (∀ a w, S w → (S w → wpAnyH P md ops Q S fuel (listed.setIfInBounds i true) a w) → K' a w) → if Region.wanted o (yielded ops a.tmps) = true then Oper.wp P o a w K' Q else K' (a.put o.dst undef) w) : wpAnyH P md ops Q S (fuel + 1) listed a w := by
  refine wpAnyH_all hr (by simp) fun j hj => ?_
  rw [List.mem_singleton] at hj
  subst hj
  exact wpOp_step ho (fun K' hK => h K' (fun a w hS hW => hK a w ⟨hS, hW hS⟩))
/-- From here on more is held. -/
theorem Sk.held_more (hSS : ∀ w, S' w → S w) : ∀ (fuel : Nat) (listed : Array Bool) (a : Act) (w : World), wpAnyH P md ops Q S' fuel listed a w → wpAnyH P md ops Q S fuel listed a w
  | 0, _, _, _, h => h
  | fuel + 1, _, _, _, h => ⟨h.1, fun i hi => wpOp_mono (fun _ _ h' => ⟨hSS _ h'.1, Sk.held_more hSS fuel _ _ _ h'.2⟩) (h.2 i hi)⟩
/-- Q, but false at a panic and where the stack is outgrown. -/
def Sk.Calm (Q : Exit → Act → World → Prop) : Exit → Act → World → Prop
  | .panic _, _, _ => False
  | .outgrown, _, _ => False
  | e, a, w => Q e a w
theorem Sk.Calm.imp {Q : Exit → Act → World → Prop} : ∀ (e : Exit) (a : Act) (w : World), Sk.Calm Q e a w → Q e a w := fun e a w h => by
  cases e <;> first | exact h | exact (h : False).elim
theorem Sk.Calm.normal {Q : Exit → Act → World → Prop} {a : Act} {w : World} (h : Q .normal a w) : Sk.Calm Q .normal a w := h
theorem Sk.Calm.shut {Q : Exit → Act → World → Prop} : ¬ LetsOut (Sk.Calm Q) := fun ⟨_, _, h⟩ => h
/-- No operation defers. -/
def Sk.noDefer (ops : Array Oper) : Bool := ops.all fun o => match o.op with | .defer _ => false | _ => true
theorem Sk.noDefer_spec (h : Sk.noDefer ops = true) {i : Nat} {o : Oper} (hi : ops[i]? = some o) : ∀ c, o.op ≠ .defer c := fun c e => by
  obtain ⟨hl, rfl⟩ := Array.getElem?_eq_some_iff.1 hi
  unfold Sk.noDefer at h
  have := Array.all_eq_true.1 h i hl
  rw [e] at this
  cases this
/-- One operation, carried out within a round of a range over a function. -/
theorem Sk.op_round {l n i : Nat} {K : Act → World → Prop} {a : Act} {w : World} (hL : ¬ LetsOut Q) (hd : Sk.noDefer ops = true) (h : wpOp P ops Q i K a w) : wpOpIn (Fence.wide.inRound l) n P ops Q i K a w := by
  unfold wpOp at h
  unfold wpOpIn
  cases ho : ops[i]? with
  | none => simpa [ho] using h
  | some o =>
    simp only [ho] at h ⊢
    split
    · rename_i hw
      simp only [hw, if_true] at h
      rcases h with h | ⟨_, h⟩
      case inr => exact absurd h hL
      refine ⟨fun _ _ => trivial, ?_⟩
      rw [Oper.semAt_eq _ _ _ (Sk.noDefer_spec hd ho)]
      unfold Oper.wp at h
      generalize (execOp a.eval o).run P w = r at h ⊢
      cases r with
      | ok x w' =>
        cases x with
        | value v => exact h
        | skip => exact h
        | defer d => exact h
        | enter f args =>
          refine ⟨fun e => (by cases e), CallsIn.inRound l (callsIn_wide.2 ?_)⟩
          exact h
        | row row args =>
          refine ⟨fun e => (by cases e), fun c cs _ => ?_⟩
          obtain ⟨v, w'', hr, hs⟩ := h c cs
          exact ⟨v, w'', hr, stepsIn_wide.2 hs⟩
        | _ => exact (h : False).elim
      | halt x w' =>
        cases x with
        | panic v => exact h
        | _ => exact (h : False).elim
    · rename_i hw
      simp only [hw] at h
      exact ⟨fun _ _ => trivial, h⟩
theorem Sk.any_round {l n : Nat} (hL : ¬ LetsOut Q) (hd : Sk.noDefer ops = true) : ∀ (fuel : Nat) (listed : Array Bool) (a : Act) (w : World), wpAnyH P md ops Q S fuel listed a w → wpAnyIn (Fence.wide.inRound l) n P md ops Q fuel listed a w
  | 0, _, _, _, h => h
  | fuel + 1, _, _, _, h => ⟨h.1, fun i hi => wpOpIn_mono (fun _ _ h' => Sk.any_round hL hd fuel _ _ _ h'.2) (Sk.op_round hL hd (h.2 i hi))⟩
/-- A region that draws its order, within a round. -/
theorem Sk.region_round {id l n : Nat} {a : Act} {w : World} (hm : P.follows .mixedOrders = true) (hd : Sk.noDefer ops = true) (hS : S w.drew)
    (h : S w.drew → wpAnyH P .any ops (Sk.Calm Q) S ops.size (Array.replicate ops.size false) a w.drew) : (Code.region id ops true).wpIn (Fence.wide.inRound l) n P Q a w :=
  Code.wpIn_mono Sk.Calm.imp (wpIn_region_any hm (Sk.any_round Sk.Calm.shut hd _ _ _ _ (h hS)))
end
end Go.Proofs.YtfjhffldhpcdmaaDoor
