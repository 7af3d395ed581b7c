/-
  The program's list: nodes in order, each in some levels. Mathematics, and the nodes in memory.
  The program's list: rows that it owns; a row copied; a deed copied.
  Contracts of package texts: a string copied. Over a contract of the shelf, laid at this program.
  The document's list of deeds: Get, From.
  The document's list of deeds: Bytes.
  The program's list: a deed in memory of its own; what it counts; a node's key.
  The program's list: its state; a node's key; what a deed counts.
  The program's list: whether a node has a key; the heights that are drawn.
-/
import Derived.Test.YtfjhffldhpcdmaaDoorZAE
import Derived.Deep.OwnRows
import Derived.Test.YtfjhffldhpcdmaaDoorZAC
import Derived.Test.YtfjhffldhpcdmaaDoorZAD
import Derived.BigQuiet
import Derived.Deep.RegionLaw
import Derived.Deep.RegionLawGrows
import Derived.StillTailTactics
import Derived.Deep.RegionHeld3
import Derived.Test.YtfjhffldhpcdmaaDoorRows
import Derived.Test.YtfjhffldhpcdmaaDoorLay
import Derived.WalkKit
import Derived.WalkSpells
import Derived.WalkLawsBesides
import Derived.Test.YtfjhffldhpcdmaaDoorZAA
namespace Go.Proofs.YtfjhffldhpcdmaaDoor
open Go Go.RowKit
/-- A node: its block, its deed with the slice of its row, how many were there before it, in how many levels it is. -/
structure Sk.Nd where
  b : Nat
  gone : Bool
  rv : Value
  row : List Kn.V
  num : Nat
  h : Nat
def Sk.Nd.d (x : Sk.Nd) : Dd.D := ⟨x.gone, x.row⟩
def Sk.kn (x : Sk.Nd) : Kn.V := Sk.kd x.d
def Sk.Nd.up (x : Sk.Nd) (i : Nat) : Sk.Nd := { x with h := i }
def Sk.pt (o : Option Nat) : Value := .pointer (o.map fun b => ⟨b, 0, none⟩)
/-- The first node of a level. -/
def Sk.lnk (i : Nat) : List Sk.Nd → Option Nat
  | [] => none
  | x :: r => if i < x.h then some x.b else Sk.lnk i r
/-- What the cells of a node hold, the nodes r being behind it. -/
def Sk.Nd.f (x : Sk.Nd) (r : List Sk.Nd) (j : Nat) : Value :=
  if j = 0 then .bool x.gone else if j = 1 then x.rv else if j = 2 then .int .i64 (x.num : Int) else if j - 3 < x.h then Sk.pt (Sk.lnk (j - 3) r) else .pointer none
/-- .. and those of the list. -/
def Sk.hf (st c b : Value) (N : List Sk.Nd) (j : Nat) : Value := if j < 12 then Sk.pt (Sk.lnk j N) else if j = 12 then st else if j = 13 then c else b
/-- The nodes A in memory, B being behind them. -/
def Sk.Seg (w : World) : List Sk.Nd → List Sk.Nd → Prop
  | [], _ => True
  | x :: A, B => w.rowIs x.b 66 15 (x.f (A ++ B)) ∧ Sk.Seg w A B
/-- Where the levels lie that lead on, behind the nodes L, from q on. -/
def Sk.lst (i : Nat) : Nat × Nat → List Sk.Nd → Nat × Nat
  | q, [] => q
  | q, x :: r => Sk.lst i (if i < x.h then (x.b, 3) else q) r
theorem Sk.lnk_low {i : Nat} {C : List Sk.Nd} (B : List Sk.Nd) (h : ∀ c ∈ C, c.h ≤ i) : Sk.lnk i (C ++ B) = Sk.lnk i B := by
  induction C with
  | nil => rfl
  | cons x C ih =>
    rw [List.cons_append, Sk.lnk, if_neg (by have := h x List.mem_cons_self; omega)]
    exact ih fun c hc => h c (List.mem_cons_of_mem _ hc)
theorem Sk.lst_low {i : Nat} {C : List Sk.Nd} (q : Nat × Nat) (h : ∀ c ∈ C, c.h ≤ i) : Sk.lst i q C = q := by
  induction C with
  | nil => rfl
  | cons x C ih =>
    rw [Sk.lst, if_neg (by have := h x List.mem_cons_self; omega)]
    exact ih fun c hc => h c (List.mem_cons_of_mem _ hc)
theorem Sk.lst_append (i : Nat) (q : Nat × Nat) (A B : List Sk.Nd) : Sk.lst i q (A ++ B) = Sk.lst i (Sk.lst i q A) B := by
  induction A generalizing q with
  | nil => rfl
  | cons x A ih => rw [List.cons_append, Sk.lst, Sk.lst]; exact ih _
theorem Sk.lst_high {i : Nat} (q : Nat × Nat) (A : List Sk.Nd) {x : Sk.Nd} (h : i < x.h) : Sk.lst i q (A ++ [x]) = (x.b, 3) := by
  rw [Sk.lst_append, Sk.lst, if_pos h, Sk.lst]
/-- One level further down. -/
theorem Sk.lst_down (i : Nat) (q : Nat × Nat) (L : List Sk.Nd) : ∃ A C, L = A ++ C ∧ Sk.lst (i + 1) q L = Sk.lst i q A := by
  suffices h : ∀ M : List Sk.Nd, ∃ A C, M.reverse = A ++ C ∧ Sk.lst (i + 1) q M.reverse = Sk.lst i q A by
    have := h L.reverse
    rwa [List.reverse_reverse] at this
  intro M
  induction M with
  | nil => exact ⟨[], [], rfl, rfl⟩
  | cons x M ih =>
    obtain ⟨A, C, e, hl⟩ := ih
    rw [List.reverse_cons]
    by_cases hx : i + 1 < x.h
    · exact ⟨M.reverse ++ [x], [], (List.append_nil _).symm, by rw [Sk.lst_high q _ hx, Sk.lst_high q _ (by omega)]⟩
    · refine ⟨A, C ++ [x], by rw [e, List.append_assoc], ?_⟩
      rw [Sk.lst_append, Sk.lst, if_neg hx, Sk.lst, hl]
/-- The first node of a level, or none. -/
theorem Sk.first (i : Nat) (L : List Sk.Nd) : (Sk.lnk i L = none ∧ ∀ c ∈ L, c.h ≤ i) ∨ ∃ A x B, L = A ++ x :: B ∧ (∀ c ∈ A, c.h ≤ i) ∧ i < x.h ∧ Sk.lnk i L = some x.b := by
  induction L with
  | nil => exact .inl ⟨rfl, fun c hc => (by cases hc)⟩
  | cons y L ih =>
    by_cases hy : i < y.h
    · exact .inr ⟨[], y, L, rfl, fun c hc => (by cases hc), hy, by rw [Sk.lnk, if_pos hy]⟩
    · rcases ih with ⟨h1, h2⟩ | ⟨A, x, B, rfl, h2, h3, h4⟩
      · refine .inl ⟨by rw [Sk.lnk, if_neg hy, h1], fun c hc => ?_⟩
        rcases List.mem_cons.1 hc with rfl | hc
        · omega
        · exact h2 c hc
      · refine .inr ⟨y :: A, x, B, rfl, fun c hc => ?_, h3, by rw [Sk.lnk, if_neg hy, h4]⟩
        rcases List.mem_cons.1 hc with rfl | hc
        · omega
        · exact h2 c hc
/-- Either the levels are those that they were, or those of a node. -/
theorem Sk.lst_or (i : Nat) (L : List Sk.Nd) : (∀ c ∈ L, c.h ≤ i) ∨ ∃ y ∈ L, i < y.h ∧ (∀ q, Sk.lst i q L = (y.b, 3)) ∧ ∃ u, ∀ B, Sk.lnk i (L ++ B) = some u := by
  induction L with
  | nil => exact .inl fun c hc => by cases hc
  | cons x L ih =>
    rcases ih with h | ⟨y, hy, h1, h2, u, h3⟩
    · by_cases hx : i < x.h
      · refine .inr ⟨x, List.mem_cons_self, hx, fun q => ?_, x.b, fun B => by rw [List.cons_append, Sk.lnk, if_pos hx]⟩
        rw [Sk.lst, if_pos hx, Sk.lst_low _ h]
      · refine .inl fun c hc => ?_
        rcases List.mem_cons.1 hc with rfl | hc
        · omega
        · exact h c hc
    · refine .inr ⟨y, List.mem_cons_of_mem _ hy, h1, fun q => by rw [Sk.lst]; exact h2 _, ?_⟩
      by_cases hx : i < x.h
      · exact ⟨x.b, fun B => by rw [List.cons_append, Sk.lnk, if_pos hx]⟩
      · exact ⟨u, fun B => by rw [List.cons_append, Sk.lnk, if_neg hx]; exact h3 B⟩
theorem Sk.lnk_up {i j : Nat} (hj : j ≠ i) (n : Sk.Nd) (hn : n.h = i) (A B : List Sk.Nd) : Sk.lnk j (A ++ n.up (i + 1) :: B) = Sk.lnk j (A ++ n :: B) := by
  induction A with
  | nil =>
    have e1 : (n.up (i + 1)).h = i + 1 := rfl
    have e2 : (n.up (i + 1)).b = n.b := rfl
    rw [List.nil_append, List.nil_append, Sk.lnk, Sk.lnk, e1, e2, hn]
    by_cases h : j < i
    · rw [if_pos h, if_pos (by omega)]
    · rw [if_neg h, if_neg (by omega)]
  | cons x A ih => rw [List.cons_append, List.cons_append, Sk.lnk, Sk.lnk, ih]
theorem Sk.Nd.f_next {x : Sk.Nd} {r : List Sk.Nd} {i : Nat} (h : i < x.h) : x.f r (3 + i) = Sk.pt (Sk.lnk i r) := by
  unfold Sk.Nd.f
  rw [if_neg (by omega), if_neg (by omega), if_neg (by omega), show 3 + i - 3 = i by omega, if_pos h]
theorem Sk.Nd.f_congr {x : Sk.Nd} {r r' : List Sk.Nd} (h : ∀ i, i < x.h → Sk.lnk i r' = Sk.lnk i r) (j : Nat) : x.f r j = x.f r' j := by
  unfold Sk.Nd.f
  by_cases hj : j - 3 < x.h
  · rw [h _ hj]
  · rw [if_neg hj, if_neg hj]
section
variable {w : World}
theorem Sk.seg_append (A B C : List Sk.Nd) : Sk.Seg w (A ++ B) C ↔ Sk.Seg w A (B ++ C) ∧ Sk.Seg w B C := by
  induction A with
  | nil => exact ⟨fun h => ⟨trivial, h⟩, fun h => h.2⟩
  | cons x A ih =>
    rw [List.cons_append, Sk.Seg, Sk.Seg, ih, List.append_assoc]
    exact ⟨fun ⟨a, b, c⟩ => ⟨⟨a, b⟩, c⟩, fun ⟨⟨a, b⟩, c⟩ => ⟨a, b, c⟩⟩
theorem Sk.Seg.same {w' : World} {A B : List Sk.Nd} (h : Sk.Seg w A B) (g : ∀ x ∈ A, w'.heap[x.b]? = w.heap[x.b]?) : Sk.Seg w' A B := by
  induction A with
  | nil => trivial
  | cons x A ih => exact ⟨h.1.of_block (g x List.mem_cons_self), ih h.2 fun y hy => g y (List.mem_cons_of_mem _ hy)⟩
theorem Sk.Seg.other {A B : List Sk.Nd} (h : Sk.Seg w A B) {a : Addr} (ha : ∀ x ∈ A, x.b ≠ a.block) (v : Value) : Sk.Seg (w.setCell a v) A B :=
  h.same fun x hx => Below.heap_setCell _ _ _ _ (ha x hx)
theorem Sk.Seg.tail {A B B' : List Sk.Nd} (h : Sk.Seg w A B) (g : ∀ i, ∀ R, Sk.lnk i (R ++ B') = Sk.lnk i (R ++ B)) : Sk.Seg w A B' := by
  induction A with
  | nil => trivial
  | cons x A ih => exact ⟨h.1.congr fun j _ => Sk.Nd.f_congr (fun i _ => g i A) j, ih h.2⟩
theorem Sk.Seg.alive {A B : List Sk.Nd} (h : Sk.Seg w A B) : ∀ x ∈ A, x.b < w.heap.size := by
  induction A with
  | nil => intro x hx; cases hx
  | cons y A ih =>
    intro x hx
    rcases List.mem_cons.1 hx with rfl | hx
    · exact h.1.lt
    · exact ih h.2 x hx
/-- What the levels that lead on hold. -/
theorem Sk.Seg.lst {A B : List Sk.Nd} {i : Nat} (hi : i < 12) (h : Sk.Seg w A B) : ∀ q : Nat × Nat, w.cell? ⟨q.1, q.2 + i, none⟩ = some (Sk.pt (Sk.lnk i (A ++ B))) →
    w.cell? ⟨(Sk.lst i q A).1, (Sk.lst i q A).2 + i, none⟩ = some (Sk.pt (Sk.lnk i B)) := by
  induction A with
  | nil => exact fun q hq => hq
  | cons x A ih =>
    intro q hq
    rw [Sk.lst]
    by_cases hx : i < x.h
    · rw [if_pos hx]
      refine ih h.2 _ ?_
      have := h.1.cell (i := 3 + i) (by omega)
      rw [Sk.Nd.f_next hx] at this
      exact this
    · rw [if_neg hx]
      refine ih h.2 _ ?_
      rw [List.cons_append, Sk.lnk, if_neg hx] at hq
      exact hq
theorem Sk.Seg.lst_frozen {A B : List Sk.Nd} {i : Nat} (h : Sk.Seg w A B) : ∀ q : Nat × Nat, w.frozen? ⟨q.1, q.2 + i, none⟩ = false → w.frozen? ⟨(Sk.lst i q A).1, (Sk.lst i q A).2 + i, none⟩ = false := by
  induction A with
  | nil => exact fun q hq => hq
  | cons x A ih =>
    intro q hq
    rw [Sk.lst]
    by_cases hx : i < x.h
    · rw [if_pos hx]
      exact ih h.2 _ (h.1.frozen (3 + i))
    · rw [if_neg hx]
      exact ih h.2 _ hq
/-- A node comes into one level more. -/
theorem Sk.Seg.raise {n : Sk.Nd} {i : Nat} (hi : i < 12) (hn : n.h = i) {B : List Sk.Nd} : ∀ {A : List Sk.Nd} (q : Nat × Nat), Sk.Seg w A (n :: B) → (A.map Sk.Nd.b).Nodup → (∀ x ∈ A, x.b ≠ q.1) →
    Sk.Seg (w.setCell ⟨(Sk.lst i q A).1, (Sk.lst i q A).2 + i, none⟩ (Sk.pt (some n.b))) A (n.up (i + 1) :: B) := by
  intro A
  induction A with
  | nil => intros; trivial
  | cons x A ih =>
    intro q h hd hq
    rw [List.map_cons, List.nodup_cons] at hd
    have hxA : ∀ y ∈ A, y.b ≠ x.b := fun y hy e => hd.1 (e ▸ List.mem_map_of_mem hy)
    have hne : ∀ j, j ≠ i → Sk.lnk j (A ++ n.up (i + 1) :: B) = Sk.lnk j (A ++ n :: B) := fun j hj => Sk.lnk_up hj n hn A B
    rw [Sk.lst]
    by_cases hx : i < x.h
    · rw [if_pos hx]
      refine ⟨?_, ih (x.b, 3) h.2 hd.2 hxA⟩
      rcases Sk.lst_or i A with hl | ⟨y, hy, _, h2, u, h3⟩
      · rw [Sk.lst_low _ hl]
        refine (h.1.set (3 + i) _).congr fun j hj => ?_
        by_cases hji : j = 3 + i
        · rw [if_pos hji, hji, Sk.Nd.f_next hx, Sk.lnk_low _ hl, Sk.lnk, if_pos (show i < (n.up (i + 1)).h from Nat.lt_succ_self i)]
          rfl
        · rw [if_neg hji]
          unfold Sk.Nd.f
          by_cases h0 : j = 0
          · rw [if_pos h0, if_pos h0]
          · by_cases h1 : j = 1
            · rw [if_neg h0, if_neg h0, if_pos h1, if_pos h1]
            · by_cases h2 : j = 2
              · rw [if_neg h0, if_neg h0, if_neg h1, if_neg h1, if_pos h2, if_pos h2]
              · rw [hne (j - 3) (by omega)]
      · rw [h2]
        refine (h.1.setOther (a := ⟨y.b, 3 + i, none⟩) (fun e => hxA y hy e.symm) _).congr fun j _ => Sk.Nd.f_congr (fun k _ => ?_) j
        by_cases hk : k = i
        · rw [hk, h3, h3]
        · exact hne k hk
    · rw [if_neg hx]
      refine ⟨?_, ih q h.2 hd.2 fun y hy => hq y (List.mem_cons_of_mem _ hy)⟩
      have hb : x.b ≠ (Sk.lst i q A).1 := by
        rcases Sk.lst_or i A with hl | ⟨y, hy, _, h2, _⟩
        · rw [Sk.lst_low _ hl]; exact hq x List.mem_cons_self
        · rw [h2]; exact fun e => hxA y hy e.symm
      exact (h.1.setOther (a := ⟨(Sk.lst i q A).1, (Sk.lst i q A).2 + i, none⟩) hb _).congr fun j _ => Sk.Nd.f_congr (fun k hk => hne k (by omega)) j
/-- .. in the list's own levels. -/
theorem Sk.raise_head {n : Sk.Nd} {i p : Nat} {st c b : Value} {t : TypeId} (hi : i < 12) (hn : n.h = i) {A B : List Sk.Nd} (h : w.rowIs p t 15 (Sk.hf st c b (A ++ n :: B))) (hp : ∀ x ∈ A, x.b ≠ p) :
    (w.setCell ⟨(Sk.lst i (p, 0) A).1, (Sk.lst i (p, 0) A).2 + i, none⟩ (Sk.pt (some n.b))).rowIs p t 15 (Sk.hf st c b (A ++ n.up (i + 1) :: B)) := by
  have hne : ∀ j, j ≠ i → Sk.lnk j (A ++ n.up (i + 1) :: B) = Sk.lnk j (A ++ n :: B) := fun j hj => Sk.lnk_up hj n hn A B
  rcases Sk.lst_or i A with hl | ⟨y, hy, _, h2, u, h3⟩
  · rw [Sk.lst_low _ hl]
    refine (h.set (0 + i) _).congr fun j hj => ?_
    unfold Sk.hf
    by_cases hji : j = 0 + i
    · rw [if_pos hji, if_pos (by omega), hji, Nat.zero_add, Sk.lnk_low _ hl, Sk.lnk, if_pos (show i < (n.up (i + 1)).h from Nat.lt_succ_self i)]
      rfl
    · rw [if_neg hji]
      by_cases h12 : j < 12
      · rw [if_pos h12, if_pos h12, hne j (by omega)]
      · rw [if_neg h12, if_neg h12]
  · rw [h2]
    refine (h.setOther (a := ⟨y.b, 3 + i, none⟩) (fun e => hp y hy e.symm) _).congr fun j _ => ?_
    unfold Sk.hf
    by_cases h12 : j < 12
    · rw [if_pos h12, if_pos h12]
      by_cases hk : j = i
      · rw [hk, h3, h3]
      · rw [hne j hk]
    · rw [if_neg h12, if_neg h12]
/-- The node's own level. -/
theorem Sk.raise_self {n : Sk.Nd} {i : Nat} (hn : n.h = i) {B : List Sk.Nd} (h : w.rowIs n.b 66 15 (n.f B)) :
    (w.setCell ⟨n.b, 3 + i, none⟩ (Sk.pt (Sk.lnk i B))).rowIs n.b 66 15 ((n.up (i + 1)).f B) := by
  refine (h.set (3 + i) _).congr fun j hj => ?_
  have e1 : (n.up (i + 1)).h = i + 1 := rfl
  have e2 : (n.up (i + 1)).gone = n.gone := rfl
  have e3 : (n.up (i + 1)).rv = n.rv := rfl
  have e4 : (n.up (i + 1)).num = n.num := rfl
  unfold Sk.Nd.f
  rw [e1, e2, e3, e4, hn]
  by_cases hji : j = 3 + i
  · rw [if_pos hji, if_neg (by omega), if_neg (by omega), if_neg (by omega), if_pos (by omega), hji, show 3 + i - 3 = i by omega]
  · rw [if_neg hji]
    by_cases h0 : j = 0
    · rw [if_pos h0, if_pos h0]
    · by_cases h1 : j = 1
      · rw [if_neg h0, if_neg h0, if_pos h1, if_pos h1]
      · by_cases h2 : j = 2
        · rw [if_neg h0, if_neg h0, if_neg h1, if_neg h1, if_pos h2, if_pos h2]
        · rw [if_neg h0, if_neg h0, if_neg h1, if_neg h1, if_neg h2, if_neg h2]
          by_cases hl : j - 3 < i
          · rw [if_pos hl, if_pos (by omega)]
          · rw [if_neg hl, if_neg (by omega)]
end
/-- How many nodes stand behind the one in this block. -/
def Sk.rest (p : Nat) (N : List Sk.Nd) (v : Value) : Nat := match v with
  | .pointer (some a) => if a.block = p then N.length else go a.block N
  | _ => 0
where go (b : Nat) : List Sk.Nd → Nat
  | [] => 0
  | x :: r => if x.b = b then r.length else go b r
theorem Sk.rest_go {x : Sk.Nd} {A B : List Sk.Nd} (hd : ((A ++ x :: B).map Sk.Nd.b).Nodup) : Sk.rest.go x.b (A ++ x :: B) = B.length := by
  induction A with
  | nil => rw [List.nil_append, Sk.rest.go, if_pos rfl]
  | cons y A ih =>
    rw [List.cons_append, List.map_cons, List.nodup_cons] at hd
    rw [List.cons_append, Sk.rest.go, if_neg (fun e : y.b = x.b => hd.1 (by rw [e]; exact List.mem_map_of_mem (by simp))), ih hd.2]
theorem Sk.rest_node {p : Nat} {x : Sk.Nd} {A B : List Sk.Nd} (o : Nat) (hd : ((A ++ x :: B).map Sk.Nd.b).Nodup) (hp : x.b ≠ p) : Sk.rest p (A ++ x :: B) (.pointer (some ⟨x.b, o, none⟩)) = B.length := by
  show (if x.b = p then _ else _) = _
  rw [if_neg hp, Sk.rest_go hd]
theorem Sk.rest_lst {p i o : Nat} {A B : List Sk.Nd} (hd : ((A ++ B).map Sk.Nd.b).Nodup) (hp : ∀ x ∈ A, x.b ≠ p) : B.length ≤ Sk.rest p (A ++ B) (.pointer (some ⟨(Sk.lst i (p, o) A).1, (Sk.lst i (p, o) A).2, none⟩)) := by
  suffices h : ∀ M : List Sk.Nd, A = M.reverse → B.length ≤ Sk.rest p (A ++ B) (.pointer (some ⟨(Sk.lst i (p, o) A).1, (Sk.lst i (p, o) A).2, none⟩)) from h A.reverse (by simp)
  intro M
  induction M generalizing A B with
  | nil =>
    rintro rfl
    show _ ≤ (if p = p then _ else _)
    rw [if_pos rfl]
    simp
  | cons x M ih =>
    rintro rfl
    rw [List.reverse_cons] at hd hp ⊢
    by_cases hx : i < x.h
    · rw [Sk.lst_high _ _ hx]
      rw [List.append_assoc] at hd ⊢
      exact Nat.le_of_eq (Sk.rest_node 3 hd (hp x (by simp))).symm
    · have h1 := ih (A := M.reverse) (B := x :: B) (by simpa using hd) (fun y hy => hp y (by simp at hy ⊢; exact .inl hy)) rfl
      rw [Sk.lst_append, Sk.lst, if_neg hx, Sk.lst, List.append_assoc]
      simp only [List.length_cons] at h1
      exact Nat.le_of_lt h1
end Go.Proofs.YtfjhffldhpcdmaaDoor

namespace Go.Proofs.YtfjhffldhpcdmaaDoor
open Go Go.RowKit
/-- A value as cells. -/
def Sk.ve (v : Kn.V) : List Value := [.bool v.null, .int .i64 v.n, .string v.s]
theorem Sk.ve_len (v : Kn.V) : (Sk.ve v).length = 3 := rfl
theorem Sk.ve_one (v : Kn.V) : ∀ u ∈ Sk.ve v, u.oneCell' = true := fun u hu => by
  simp only [Sk.ve, List.mem_cons, List.not_mem_nil, or_false] at hu
  rcases hu with rfl | rfl | rfl <;> rfl
/-- A row that came in. -/
def Sk.In (w : World) (v : Value) (l : List Kn.V) : Prop := ∃ a c, v = .slice a l.length c ∧ (∀ x ∈ l, Kn.Z x) ∧ l.length ≤ 4398046511104 ∧ ((a = none ∧ c = 0 ∧ l = []) ∨ ∃ b o, a = some ⟨b, o, none⟩ ∧ b < w.heap.size ∧ ∀ i x, l[i]? = some x → Kn.At w b (o + i * 3) x)
theorem Sk.In.later {w w' : World} {v : Value} {l : List Kn.V} (h : Sk.In w v l) (g : Below w.heap.size w w') : Sk.In w' v l := by
  obtain ⟨a, c, hv, hz, hl, h⟩ := h
  refine ⟨a, c, hv, hz, hl, ?_⟩
  rcases h with h | ⟨b, o, ha, hb, h⟩
  · exact .inl h
  · exact .inr ⟨b, o, ha, Nat.lt_of_lt_of_le hb g.size, fun i x hx => (h i x hx).later g⟩
/-- A row that a call owns. -/
abbrev Sk.Rw (base : Nat) (w : World) (v : Value) (l : List Kn.V) : Prop := Dk.Own 25 3 Sk.ve base w v l
theorem Sk.Rw.in_ {base : Nat} {w : World} {v : Value} {l : List Kn.V} (h : Sk.Rw base w v l) (hz : ∀ x ∈ l, Kn.Z x) (hl : l.length ≤ 4398046511104) : Sk.In w v l := by
  rcases h.form with ⟨rfl, rfl⟩ | ⟨g, c, rfl, _, _, _, hg⟩
  · exact ⟨none, 0, rfl, hz, hl, .inl ⟨rfl, rfl, rfl⟩⟩
  · refine ⟨_, c, rfl, hz, hl, .inr ⟨g, 0, rfl, hg, fun i x hx => ?_⟩⟩
    rw [Nat.zero_add]
    exact ⟨h.cell Sk.ve_len (g := g) rfl hx (j := 0) (by decide), h.cell Sk.ve_len (g := g) rfl hx (j := 1) (by decide), h.cell Sk.ve_len (g := g) rfl hx (j := 2) (by decide)⟩
set_option maxHeartbeats 1000000 in
set_option maxRecDepth 100000 in
/-- A row copied. -/
theorem Sk.clone_c {w : World} {v : Value} {l : List Kn.V} (h : Sk.In w v l) :
    Calls Tryd.prog 42 #[v] w fun e w' => ∃ u, e = .returned u ∧ Sk.Rw w.heap.size w' u l ∧ Below w.heap.size w w' := by
  obtain ⟨a, c, rfl, _, hl, h⟩ := h
  rcases h with ⟨rfl, rfl, rfl⟩ | ⟨b, o, rfl, hb, h⟩
  · simp only [List.length_nil]
    have he : ∀ w : World, (binOp .eql 35 (.slice none 0 0) (.slice none 0 0)).run Tryd.prog w = .ok (.bool true) w := fun _ => rfl
    go_enter Tryd.func42, Tryd.ntmps42
    go_wp2
    go_ret
    exact ⟨_, rfl, Dk.Own.nil _ _, Below.refl _ _⟩
  · obtain ⟨w1, hw1⟩ : ∃ w1, w1 = w.alloc (.cells #[] 25) := ⟨_, rfl⟩
    have hb1 : Below w.heap.size w w1 := by rw [hw1]; exact (Below.refl _ w).alloc (Nat.le_refl _) _
    have ho : Sk.Rw w.heap.size w1 (.slice (some ⟨w.heap.size, 0, none⟩) 0 0) [] :=
      ⟨rfl, .inr ⟨w.heap.size, 0, #[], rfl, Nat.le_refl _, by rw [hw1]; exact heap_alloc_new w _, Nat.le_refl _, by decide, rfl, rfl⟩⟩
    have hsrc : Dk.Src Sk.ve w1 (.slice (some ⟨b, o, none⟩) l.length c) l := .inr ⟨_, c, rfl, Dk.src_cells Sk.ve_len (by decide) fun i j x hx hj => by
      have hc := (h i x hx).later hb1
      rcases (by omega : j = 0 ∨ j = 1 ∨ j = 2) with rfl | rfl | rfl
      · exact hc.c0
      · exact hc.c1
      · exact hc.c2⟩
    have HO := Lib.hid ho
    have HS := Lib.hid hsrc
    have HL : Hid (w.heap.size ≤ w1.heap.size ∧ l.length ≤ 4398046511104) := Lib.hid ⟨hb1.size, hl⟩
    have HF : Hid (∀ v' w', Ty.Grew w1 w' (.slice (some ⟨w.heap.size, 0, none⟩) 0 0) v' → Below w.heap.size w w') := Lib.hid fun v' w' g => hb1.trans (g.below hb1.size ho.base_le)
    have he : ∀ w : World, (binOp .eql 35 (.slice (some ⟨b, o, none⟩) l.length c) (.slice none 0 0)).run Tryd.prog w = .ok (.bool false) w := fun _ => rfl
    clear h hsrc ho hb hl hb1
    go_enter Tryd.func42, Tryd.ntmps42
    go_wp2_with (
      at_builtin
      rw [← hw1]
      refine Dk.wpList_append 35 _ 32 Tryd.underlying35 Cl.infoV rfl (by decide) Sk.ve_len Sk.ve_one l HO.out HL.out.1 (by have := HL.out.2; simp; omega) (by have := HL.out.2; simp; omega) HS.out _ _ rfl rfl rfl rfl ?_
      intro v' w' h1 h2
      obtain ⟨av, nv, cv, hv⟩ : ∃ a n c, v' = .slice a n c := by
        rcases h1.form with ⟨e, _⟩ | ⟨g, c, e, _⟩
        · exact ⟨none, 0, 0, e⟩
        · exact ⟨_, _, c, e⟩
      have H1 := Lib.hid h1
      have H2 := Lib.hid h2
      clear h1 h2
      subst hv)
    go_ret
    exact ⟨_, rfl, H1.out, HF.out _ _ H2.out⟩
/-- A function's one result that lies in a cell. -/
theorem Sk.results_cell {fn : Func} {p : Tmp} {ty : TypeId} (h : fn.results = #[.cell p ty]) (tmps : Array Value) (P : Program) (w : World) :
    (results fn tmps).run P w = ((asAddr (tmps.getD p undef)).run P w).andThen fun a w1 => (loadVar ty a).run P w1 := by
  simp only [results, h]
  simp [Sem.run_bind, Result.andThen]
/-- Two boxes, one behind the other, as the worlds behind hold them. -/
theorem Sk.box2 {w : World} {x y z u : Value} {t t' : TypeId} {wb : World} (hw : wb = (w.alloc (.cells #[x, y] t)).alloc (.cells #[z, u] t')) :
    Below w.heap.size w wb ∧ wb.heap.size = w.heap.size + 2 ∧ (∀ W, Below wb.heap.size wb W → (W.cell? ⟨w.heap.size, 0, none⟩ = some x ∧ W.cell? ⟨w.heap.size, 1, none⟩ = some y) ∧ W.heap[w.heap.size + 1]? = some (.cells #[z, u] t' (0, 0))) := by
  have h1 : Below w.heap.size w wb := by rw [hw]; exact ((Below.refl _ w).alloc (Nat.le_refl _) _).alloc (by simp) _
  have h2 : wb.heap.size = w.heap.size + 2 := by rw [hw]; simp
  have h3 : wb.heap[w.heap.size]? = some (.cells #[x, y] t (0, 0)) := by
    rw [hw]
    exact (((Below.refl _ (w.alloc (.cells #[x, y] t))).alloc (Nat.le_refl _) _).block w.heap.size (by simp)).trans (heap_alloc_new w _)
  have h4 : wb.heap[w.heap.size + 1]? = some (.cells #[z, u] t' (0, 0)) := by
    rw [hw]
    have := heap_alloc_new (w.alloc (.cells #[x, y] t)) (.cells #[z, u] t')
    rwa [World.size_alloc] at this
  refine ⟨h1, h2, fun W g => ?_⟩
  have a3 := (g.block w.heap.size (by omega)).trans h3
  have a4 := (g.block (w.heap.size + 1) (by omega)).trans h4
  exact ⟨⟨by rw [cell_of_row W _ _ _ _ _ a3]; rfl, by rw [cell_of_row W _ _ _ _ _ a3]; rfl⟩, a4⟩
theorem Sk.Rw.put {base q i : Nat} {w : World} {v u : Value} {l : List Kn.V} (h : Sk.Rw base w v l) (hq : q < base) : Sk.Rw base (w.setCell ⟨q, i, none⟩ u) v l :=
  h.same fun b hb => Below.heap_setCell _ _ _ _ (by have := h.base_le b hb; show b ≠ q; omega)
theorem Sk.Rw.mono {base base' : Nat} {w : World} {v : Value} {l : List Kn.V} (h : Sk.Rw base w v l) (hb : base' ≤ base) : Sk.Rw base' w v l := by
  refine ⟨h.1, ?_⟩
  rcases h.2 with hn | ⟨g, cap, cur, e1, hbg, rest⟩
  · exact .inl hn
  · exact .inr ⟨g, cap, cur, e1, Nat.le_trans hb hbg, rest⟩
theorem Sk.put2 {B q : Nat} {w w1 : World} (g : Below B w w1) (hq : B ≤ q) (x y : Value) : Below B w ((w1.setCell ⟨q, 0, none⟩ x).setCell ⟨q, 1, none⟩ y) :=
  (g.setCell (p := ⟨q, 0, none⟩) hq x).setCell (p := ⟨q, 1, none⟩) hq y
set_option maxHeartbeats 2000000 in
set_option maxRecDepth 100000 in
/-- A deed copied. -/
theorem Sk.given_c {w : World} (gn : Bool) {v : Value} {l : List Kn.V} (h : Sk.In w v l) :
    Calls Tryd.prog 32 #[.agg #[.bool gn, v]] w fun e w' => ∃ u, e = .returned (.agg #[.bool gn, u]) ∧ Sk.Rw w.heap.size w' u l ∧ Below w.heap.size w w' := by
  obtain ⟨a, c, hv, _⟩ := id h
  obtain ⟨wb, hwb⟩ : ∃ wb, wb = (w.alloc (.cells #[.bool gn, .slice a l.length c] 37)).alloc (.cells #[.bool false, .slice none 0 0] 37) := ⟨_, rfl⟩
  obtain ⟨hb, hs, hc⟩ := Sk.box2 hwb
  have cc : Calls Tryd.prog 42 #[.slice a l.length c] wb.drew _ := Sk.clone_c (w := wb.drew) (by rw [← hv]; exact h.later hb.drew)
  have CC := Lib.hid cc
  have HC := Lib.hid hc
  have HS : Hid (wb.heap.size = w.heap.size + 2 ∧ Below w.heap.size w wb) := Lib.hid ⟨hs, hb⟩
  obtain ⟨⟨t0, t1⟩, t2⟩ := hc wb.drew (Below.refl _ _).drew
  have z0 : wb.drew.cell? ⟨w.heap.size + 1, 0, none⟩ = some (.bool false) := by rw [cell_of_row _ _ _ _ _ _ t2]; rfl
  have z1 : wb.drew.cell? ⟨w.heap.size + 1, 1, none⟩ = some (.slice none 0 0) := by rw [cell_of_row _ _ _ _ _ _ t2]; rfl
  have f0 := frozen_of_row _ _ 0 _ _ t2
  have f1 := frozen_of_row _ _ 1 _ _ t2
  rw [hv]
  clear h hv cc hc hs hb t2
  go_enter Tryd.func32, Tryd.ntmps32
  go_wp2_with fail
  rw [← hwb]
  clear hwb
  go_region_law (first
    | (go_simp; go_at_call 42; (with_reducible refine CC.out.mono ?_); rintro e w1 ⟨u, rfl, hu, g1⟩
       obtain ⟨av, nv, cv, rfl⟩ : ∃ a n c, u = .slice a n c := by
         rcases hu.form with ⟨e, _⟩ | ⟨g, c, e, _⟩
         · exact ⟨none, 0, 0, e⟩
         · exact ⟨_, _, c, e⟩
       have HU := Lib.hid hu
       have HG : Hid (Below wb.heap.size wb w1) := Lib.hid ((Below.refl _ wb).drew.trans g1)
       have HC1 := HC.out w1 HG.out
       have z0 : w1.cell? ⟨w.heap.size + 1, 0, none⟩ = some (.bool false) := by rw [cell_of_row _ _ _ _ _ _ HC1.2]; rfl
       have z1 : w1.cell? ⟨w.heap.size + 1, 1, none⟩ = some (.slice none 0 0) := by rw [cell_of_row _ _ _ _ _ _ HC1.2]; rfl
       have t0 := HC1.1.1
       have t1 := HC1.1.2
       have f0 := frozen_of_row _ _ 0 _ _ HC1.2
       have f1 := frozen_of_row _ _ 1 _ _ HC1.2
       clear HC1 hu g1))
  all_goals
    have HE : Hid (Sk.Rw w.heap.size ((w1.setCell ⟨w.heap.size + 1, 0, none⟩ (.bool gn)).setCell ⟨w.heap.size + 1, 1, none⟩ (.slice av nv cv)) (.slice av nv cv) l ∧ Below w.heap.size w ((w1.setCell ⟨w.heap.size + 1, 0, none⟩ (.bool gn)).setCell ⟨w.heap.size + 1, 1, none⟩ (.slice av nv cv))) := Lib.hid (by
      have hs := HS.out.1
      have hu : Sk.Rw wb.heap.size w1 (.slice av nv cv) l := HU.out
      exact ⟨((hu.put (by omega)).put (by omega)).mono (by omega), Sk.put2 (HS.out.2.trans (HG.out.mono (by omega))) (by omega) _ _⟩)
    clear CC HC HU HG HS
    go_wp2
    (try simp only [Exit.inBlock, Exit.then])
    refine bodyPost_ret (v := .agg #[.bool gn, .slice av nv cv]) ?_ rfl ⟨_, rfl, HE.out⟩
    rw [Sk.results_cell rfl]
    go_simp
end Go.Proofs.YtfjhffldhpcdmaaDoor

namespace Go.Proofs.YtfjhffldhpcdmaaDoor
open Go.RowKit Go.Shelf
/-- A string copied. -/
theorem Tx.clone_c (s : ByteArray) (w : World) (hs : s.size ≤ 140737488355328) : Calls Tryd.prog 36 #[.string s] w fun e w' => e = .returned (.string s) ∧ Below w.heap.size w w' := by
  have cc := Any.stringslite_Clone Tryd.cloneL s w (by omega)
  go_enter Tryd.func36, Tryd.ntmps36
  go_wp2_with fail
  refine Calls.mono cc ?_
  rintro e w1 ⟨rfl, hb⟩
  go_wp2
  go_ret
  exact ⟨rfl, hb⟩
end Go.Proofs.YtfjhffldhpcdmaaDoor

namespace Go.Proofs.YtfjhffldhpcdmaaDoor
open Go.RowKit
theorem Sk.get_there {L : List Sk.E} {k : Kn.V} (h : Sk.there Sk.ke L k = true) : ∃ x, L[Sk.at_ Sk.ke L k]? = some x ∧ Sk.get Sk.ke L k = some x := by
  obtain ⟨x, hx, _⟩ := Sk.there_some h
  refine ⟨x, hx, ?_⟩
  unfold Sk.get
  rw [if_pos h, hx]
theorem Sk.get_not {L : List Sk.E} {k : Kn.V} (h : Sk.there Sk.ke L k = false) : Sk.get Sk.ke L k = none := by
  unfold Sk.get
  rw [if_neg (by rw [h]; decide)]
/-- What Get answers. -/
def Sk.getV : Option Sk.E → Value
  | none => .tuple #[.agg #[.bool false, .slice none 0 0], .bool false]
  | some x => .tuple #[.agg #[.bool x.gone, x.rv], .bool true]
set_option maxHeartbeats 4000000 in
set_option maxRecDepth 100000 in
theorem Sk.rget_c {S : Nat → Prop} {B : Nat} {w : World} {p : Nat} {v : Value} {L : List Sk.E} (h : Sk.RL S B w p v L) (k : Kn.V) (hk : Kn.Z k) (hl : L.length ≤ 1000000) :
    Calls Tryd.prog 18 #[.pointer (some ⟨p, 0, none⟩), k.val] w fun e w' => e = .returned (Sk.getV (Sk.get Sk.ke L k)) ∧ Below w.heap.size w w' := by
  obtain ⟨wa, hwa⟩ : ∃ wa, wa = w.alloc (.cells #[.bool k.null, .int .i64 k.n, .string k.s] 25) := ⟨_, rfl⟩
  obtain ⟨wb, hwb⟩ : ∃ wb, wb = wa.alloc (.cells #[.bool false, .slice none 0 0] 37) := ⟨_, rfl⟩
  have hsa : wa.heap.size = w.heap.size + 1 := by rw [hwa]; exact World.size_alloc ..
  have hba : Below w.heap.size w wa := by rw [hwa]; exact (Below.refl _ w).alloc (Nat.le_refl _) _
  have hbb : Below wa.heap.size wa wb := by rw [hwb]; exact (Below.refl _ wa).alloc (Nat.le_refl _) _
  have hsb : wb.heap.size = w.heap.size + 2 := by rw [hwb, World.size_alloc]; omega
  have hb0 : Below w.heap.size w wb := hba.trans (hbb.mono (by omega))
  have hkk : Kn.At wb w.heap.size 0 k := (show Kn.At wa w.heap.size 0 k by rw [hwa]; exact Kn.At.new w k _).later hbb
  have t0 : wb.cell? ⟨w.heap.size + 1, 0, none⟩ = some (.bool false) := by rw [hwb, ← hsa]; exact Kn.cell_new wa _ _ 0 _ rfl
  have t1 : wb.cell? ⟨w.heap.size + 1, 1, none⟩ = some (.slice none 0 0) := by rw [hwb, ← hsa]; exact Kn.cell_new wa _ _ 1 _ rfl
  have t2 : wb.heap[w.heap.size + 1]? = some (.cells #[.bool false, .slice none 0 0] 37 (0, 0)) := by rw [hwb, ← hsa]; exact heap_alloc_new wa _
  have hR := h.kept hb0
  have cp := Sk.place_c hR k hk hl
  have HT : Hid (∀ W, Below wb.heap.size wb W → (W.cell? ⟨w.heap.size + 1, 0, none⟩ = some (.bool false) ∧ W.cell? ⟨w.heap.size + 1, 1, none⟩ = some (.slice none 0 0)) ∧ W.frozen? ⟨w.heap.size + 1, 0, none⟩ = false ∧ W.frozen? ⟨w.heap.size + 1, 1, none⟩ = false) := Lib.hid fun W g => by
    have hb := (g.block (w.heap.size + 1) (by omega)).trans t2
    exact ⟨⟨(g.cell (p := ⟨w.heap.size + 1, 0, none⟩) (by show w.heap.size + 1 < _; omega)).trans t0, (g.cell (p := ⟨w.heap.size + 1, 1, none⟩) (by show w.heap.size + 1 < _; omega)).trans t1⟩, frozen_of_row W _ 0 _ _ hb, frozen_of_row W _ 1 _ _ hb⟩
  have HSET : Hid (∀ W (a b : Value), Below wb.heap.size wb W → ∀ W2, W2 = (W.setCell ⟨w.heap.size + 1, 0, none⟩ a).setCell ⟨w.heap.size + 1, 1, none⟩ b → Below w.heap.size w W2) := Lib.hid fun W a b g W2 h2 => by
    rw [h2]
    have h1 : Below w.heap.size w W := hb0.trans (g.mono (by omega))
    exact (h1.setCell (p := ⟨w.heap.size + 1, 0, none⟩) (by show w.heap.size ≤ w.heap.size + 1; omega) _).setCell (p := ⟨w.heap.size + 1, 1, none⟩) (by show w.heap.size ≤ w.heap.size + 1; omega) _
  obtain ⟨k0, k1, k2⟩ := hkk
  unfold Kn.V.val at cp ⊢
  cases ht : Sk.there Sk.ke L k with
  | false =>
    have HG := Lib.hid (Sk.get_not ht)
    rw [ht] at cp
    generalize Sk.at_ Sk.ke L k = A at cp
    generalize Sk.get Sk.ke L k = G at HG ⊢
    clear h hR hk hl ht hsa hba hbb hb0 t0 t1 t2
    go_enter Tryd.func18, Tryd.ntmps18
    go_wp2_with fail
    rw [← hwa, ← hwb]
    clear hwa hwb
    with_reducible refine cp.mono ?_
    rintro e w1 ⟨rfl, g1⟩
    obtain ⟨⟨t0, t1⟩, f0, f1⟩ := HT.out w1 g1
    have HS := Lib.hid (HSET.out w1 (.bool false) (.slice none 0 0) g1 _ rfl)
    clear cp g1 HT HSET k0 k1 k2
    go_wp2
    (try simp only [Exit.inBlock, Exit.then])
    refine bodyPost_ret (v := .tuple #[.agg #[.bool false, .slice none 0 0], .bool false]) ?_ rfl ⟨by rw [HG.out]; rfl, HS.out⟩
    rw [results_cell_tmp rfl]
    go_simp
  | true =>
    obtain ⟨x, hx, hgx⟩ := Sk.get_there ht
    have HG := Lib.hid hgx
    obtain ⟨g, c, rb, ro, rn, rc, hv, hcx, _⟩ := h.cell hx
    have hxv := hcx.rv
    clear hcx
    have hal := (List.getElem?_eq_some_iff.1 hx).1
    have HC : Hid (∀ W, Below wb.heap.size wb W → W.cell? ⟨p, 0, none⟩ = some (.slice (some ⟨g, 0, none⟩) L.length c) ∧ W.cell? ⟨g, Sk.at_ Sk.ke L k * 2, none⟩ = some (.bool x.gone) ∧ W.cell? ⟨g, Sk.at_ Sk.ke L k * 2 + 1, none⟩ = some x.rv) := Lib.hid fun W gW => by
      have h2 := hR.kept gW
      obtain ⟨g', c', rb', ro', rn', rc', e, hc, _⟩ := h2.cell hx
      rw [hv] at e
      simp only [Value.slice.injEq, Option.some.injEq, Addr.mk.injEq, and_true, true_and] at e
      obtain ⟨rfl, _⟩ := e
      refine ⟨?_, hc.c0, ?_⟩
      · rw [cell_of_row W p _ _ _ _ h2.blk, hv]; rfl
      · rw [hc.rv]; exact hc.c
    rw [hxv] at HC
    have HXV := Lib.hid hxv
    rw [ht] at cp
    generalize Sk.at_ Sk.ke L k = A at cp HC hal
    have hA0 : (0 : Int) ≤ (A : Int) := by omega
    have hAl : (A : Int) < (L.length : Int) := by omega
    generalize Sk.get Sk.ke L k = G at HG ⊢
    clear h hR hk hl ht hsa hba hbb hb0 t0 t1 t2 hx hgx hv hxv
    go_enter Tryd.func18, Tryd.ntmps18
    go_wp2_with fail
    rw [← hwa, ← hwb]
    clear hwa hwb
    with_reducible refine cp.mono ?_
    rintro e w1 ⟨rfl, g1⟩
    obtain ⟨⟨t0, t1⟩, f0, f1⟩ := HT.out w1 g1
    obtain ⟨c0, c1, c2⟩ := HC.out w1 g1
    have HS := Lib.hid (HSET.out w1 (.bool x.gone) (.slice (some ⟨rb, ro, none⟩) rn rc) g1 _ rfl)
    clear cp g1 HT HSET HC k0 k1 k2
    go_wp2
    (try simp only [Exit.inBlock, Exit.then])
    refine bodyPost_ret (v := .tuple #[.agg #[.bool x.gone, .slice (some ⟨rb, ro, none⟩) rn rc], .bool true]) ?_ rfl ⟨by rw [HG.out]; unfold Sk.getV; simp only [HXV.out], HS.out⟩
    rw [results_cell_tmp rfl]
    go_simp
/-- What is left of a slice from a place on. -/
theorem Sk.drop_at {S : Nat → Prop} {B : Nat} {w : World} {p g c : Nat} {L : List Sk.E} (h : Sk.RL S B w p (.slice (some ⟨g, 0, none⟩) L.length c) L) (A : Nat) : ∀ i j x, (L.drop A)[i]? = some x → j < 2 → w.cell? ⟨g, A * 2 + i * 2 + j, none⟩ = x.enc[j]? := fun i j x hx hj => by
  rw [List.getElem?_drop] at hx
  have := h.own.cell Sk.enc_len (g := g) rfl hx hj
  rw [← this]
  congr 2
  omega
set_option maxHeartbeats 4000000 in
set_option maxRecDepth 100000 in
theorem Sk.rfrom_c {S : Nat → Prop} {B : Nat} {w : World} {p : Nat} {v : Value} {L : List Sk.E} (h : Sk.RL S B w p v L) (k : Kn.V) (hk : Kn.Z k) (hl : L.length ≤ 1000000) :
    Calls Tryd.prog 21 #[.pointer (some ⟨p, 0, none⟩), k.val] w fun e w' => (∃ u, e = .returned u ∧ Dk.At S 37 2 Sk.E.enc w' u (Sk.from_ Sk.ke L k)) ∧ Below w.heap.size w w' := by
  obtain ⟨wa, hwa⟩ : ∃ wa, wa = w.alloc (.cells #[.bool k.null, .int .i64 k.n, .string k.s] 25) := ⟨_, rfl⟩
  have hb0 : Below w.heap.size w wa := by rw [hwa]; exact (Below.refl _ w).alloc (Nat.le_refl _) _
  have hkk : Kn.At wa w.heap.size 0 k := by rw [hwa]; exact Kn.At.new w k _
  have hR := h.kept hb0
  have cp := Sk.place_c hR k hk hl
  have hA := Sk.at_le (key := Sk.ke) L k
  obtain ⟨k0, k1, k2⟩ := hkk
  unfold Kn.V.val at cp ⊢
  unfold Sk.from_
  generalize Sk.at_ Sk.ke L k = A at cp hA ⊢
  generalize Sk.there Sk.ke L k = TH at cp
  have hA0 : (0 : Int) ≤ (A : Int) := by omega
  have hAl : (A : Int) ≤ (L.length : Int) := by omega
  have HR := Lib.hid hR
  have HB0 := Lib.hid hb0
  rcases h.own.form with ⟨rfl, rfl⟩ | ⟨g, c, rfl, hc, _, _, hg⟩
  · obtain rfl : A = 0 := by simpa using hA
    have HC : Hid (∀ W, Below wa.heap.size wa W → W.cell? ⟨p, 0, none⟩ = some (.slice none 0 0)) := Lib.hid fun W gW => by
      rw [cell_of_row W p _ _ _ _ (HR.out.kept gW).blk]; rfl
    clear h hR hk hl hb0 hA
    go_enter Tryd.func21, Tryd.ntmps21
    go_wp2_with fail
    rw [← hwa]
    clear hwa
    with_reducible refine cp.mono ?_
    rintro e w1 ⟨rfl, g1⟩
    have c0 := HC.out w1 g1
    have HG1 := Lib.hid g1
    clear cp g1 k0 k1 k2 HC
    go_wp2
    go_ret
    exact ⟨⟨_, rfl, Dk.At.nil _⟩, HB0.out.trans (HG1.out.mono HB0.out.size)⟩
  · have HC : Hid (∀ W, Below wa.heap.size wa W → W.cell? ⟨p, 0, none⟩ = some (.slice (some ⟨g, 0, none⟩) L.length c)) := Lib.hid fun W gW => by
      rw [cell_of_row W p _ _ _ _ (HR.out.kept gW).blk]; rfl
    have hcl : (L.length : Int) ≤ (c : Int) := by omega
    have HSG : Hid (S g) := Lib.hid (h.ownS g rfl)
    clear h hR hk hl hb0
    go_enter Tryd.func21, Tryd.ntmps21
    go_wp2_with fail
    rw [← hwa]
    clear hwa
    with_reducible refine cp.mono ?_
    rintro e w1 ⟨rfl, g1⟩
    have c0 := HC.out w1 g1
    have HG1 := Lib.hid g1
    clear cp g1 k0 k1 k2 HC
    go_wp2
    · go_ret
      have hb := HB0.out.trans (HG1.out.mono HB0.out.size)
      have e : L.drop A = [] := List.drop_eq_nil_of_le (by omega)
      rw [e]
      exact ⟨⟨_, rfl, some ⟨g, 0, none⟩, 0, by rw [show L.length - A = 0 by omega]; rfl, Nat.le_refl _, .inl ⟨rfl, fun _ => rfl⟩⟩, hb⟩
    · go_ret
      have hb := HB0.out.trans (HG1.out.mono HB0.out.size)
      have h1 := HR.out.kept HG1.out
      obtain ⟨cs, hcs⟩ := h1.own.typed g rfl
      exact ⟨⟨_, rfl, _, _, by rw [List.length_drop]; rfl, by rw [List.length_drop]; omega, .inr ⟨g, A * 2, cs, (0, 0), rfl, HSG.out, hcs, Sk.drop_at h1 A⟩⟩, hb⟩
end Go.Proofs.YtfjhffldhpcdmaaDoor

namespace Go.Proofs.YtfjhffldhpcdmaaDoor
open Go.RowKit
/-- What Bytes counts: of values, of a deed, of deeds. -/
def Sk.rowB (r : List Kn.V) : Nat := (r.map fun v => 8 + v.s.size).sum
def Sk.deedB (d : Dd.D) : Nat := 8 + Sk.rowB d.row
def Sk.bytes (L : List Dd.D) : Nat := (L.map Sk.deedB).sum
theorem Sk.rowB_step (r : List Kn.V) (i : Nat) (v : Kn.V) (h : r[i]? = some v) : Sk.rowB (r.take (i + 1)) = Sk.rowB (r.take i) + (8 + v.s.size) := by
  obtain ⟨hi, e⟩ := List.getElem?_eq_some_iff.1 h
  unfold Sk.rowB
  rw [List.take_succ_eq_append_getElem hi, List.map_append, List.sum_append, e]
  simp
theorem Sk.bytes_step (L : List Sk.E) (i : Nat) (x : Sk.E) (h : L[i]? = some x) : Sk.bytes ((L.take (i + 1)).map Sk.E.d) = Sk.bytes ((L.take i).map Sk.E.d) + (8 + Sk.rowB x.row) := by
  obtain ⟨hi, e⟩ := List.getElem?_eq_some_iff.1 h
  unfold Sk.bytes
  rw [List.take_succ_eq_append_getElem hi, List.map_append, List.map_append, List.sum_append, e]
  simp [Sk.deedB, Sk.E.d]
theorem Sk.wrap_add (a b : Int) : wrap64 (wrap64 a + b) = wrap64 (a + b) := by
  unfold wrap64
  omega
set_option maxHeartbeats 4000000 in
set_option maxRecDepth 100000 in
theorem Sk.rbytes_c {S : Nat → Prop} {B : Nat} {w : World} {p : Nat} {v : Value} {L : List Sk.E} (h : Sk.RL S B w p v L) (hl : L.length ≤ 1000000) :
    Calls Tryd.prog 16 #[.pointer (some ⟨p, 0, none⟩)] w fun e w' => e = .returned (.int .i64 (wrap64 (Sk.bytes (L.map Sk.E.d) : Int))) ∧ w' = w := by
  obtain ⟨a, c, hv⟩ := h.slice
  have c0 : w.cell? ⟨p, 0, none⟩ = some (.slice a L.length c) := by rw [cell_of_row w p _ _ _ _ h.blk, hv]; rfl
  have HX : Hid (∀ i x, L[i]? = some x → ∃ g rb ro rn rc, a = some ⟨g, 0, none⟩ ∧ w.cell? ⟨g, i * 2 + 1, none⟩ = some (.slice (some ⟨rb, ro, none⟩) rn rc) ∧ rn = x.row.length ∧ (rn : Int) ≤ 9223372036854775807 ∧ ∀ j y, x.row[j]? = some y → w.cell? ⟨rb, ro + j * 3 + 2, none⟩ = some (.string y.s) ∧ y.s.size ≤ 140737488351232) := Lib.hid fun i x hx => by
    obtain ⟨g, c', rb, ro, rn, rc, e, hc, _⟩ := h.cell hx
    rw [hv] at e
    simp only [Value.slice.injEq, true_and] at e
    obtain ⟨⟨ra, rc', hrv, hrm, hrz, hr⟩, hne⟩ := h.rows x (List.mem_of_getElem? hx)
    rw [hc.rv] at hrv
    simp only [Value.slice.injEq] at hrv
    obtain ⟨e1, e2, e3⟩ := hrv
    rcases hr with hr | ⟨rb', ro', e4, _, _, hr⟩
    · exact absurd hr hne
    · rw [← e1] at e4
      simp only [Option.some.injEq, Addr.mk.injEq, and_true] at e4
      obtain ⟨rfl, rfl⟩ := e4
      refine ⟨g, rb, ro, rn, rc, e.1, hc.c, e2, by omega, fun j y hy => ⟨(hr j y hy).c2, hrz y (List.mem_of_getElem? hy)⟩⟩
  have HST : Hid (∀ i x, L[i]? = some x → (Sk.bytes ((L.take (i + 1)).map Sk.E.d) : Int) = Sk.bytes ((L.take i).map Sk.E.d) + (8 + Sk.rowB x.row)) := Lib.hid fun i x hx => by have := Sk.bytes_step L i x hx; omega
  have hli : (L.length : Int) ≤ 1000000 := by omega
  have HEND : Hid (L.take L.length = L) := Lib.hid List.take_length
  have hw0 : wrap64 (0 : Int) = 0 := by unfold wrap64; omega
  have HW0 := Lib.hid hw0
  clear h hv hl hw0
  go_enter Tryd.func16, Tryd.ntmps16
  go_wp2_with fail
  go_loop [3, 4, 5] (fun n i _ => ∃ k : Nat, k ≤ L.length ∧ i = .int .i64 k ∧ n = .int .i64 (wrap64 (Sk.bytes ((L.take k).map Sk.E.d) : Int))) (fun _ i _ => L.length - (intOf i).toNat)
  case atStart => exact ⟨0, Nat.zero_le _, rfl, by rw [show Sk.bytes ((L.take 0).map Sk.E.d) = 0 from rfl]; rw [show ((0 : Nat) : Int) = 0 from rfl, HW0.out]⟩
  case round =>
    obtain ⟨k, hk, rfl, rfl⟩ := hrel
    have hk0 : (0 : Int) ≤ (k : Int) := by omega
    by_cases hkl : k < L.length
    · obtain ⟨x, hx⟩ : ∃ x, L[k]? = some x := ⟨_, List.getElem?_eq_getElem hkl⟩
      have hki : (k : Int) < (L.length : Int) := by omega
      obtain ⟨g, rb, ro, rn, rc, rfl, hc, hrn, hrm, hj⟩ := HX.out k x hx
      have HJ := Lib.hid hj
      have HS := Lib.hid (HST.out k x hx)
      have HRN := Lib.hid hrn
      generalize (Sk.bytes ((L.take k).map Sk.E.d) : Int) = bs at HS ⊢
      clear hx hj hrn HX HST
      go_wp2_with fail
      go_loop [3, 5] (fun n j => ∃ m : Nat, m ≤ rn ∧ j = .int .i64 m ∧ n = .int .i64 (wrap64 (bs + 8 + (Sk.rowB (x.row.take m) : Int)))) (fun _ j => rn - (intOf j).toNat)
      case atStart => exact ⟨0, Nat.zero_le _, rfl, by rw [Sk.wrap_add, show Sk.rowB (x.row.take 0) = 0 from rfl]; simp⟩
      case round =>
        obtain ⟨m, hm, rfl, rfl⟩ := hrel
        have hm0 : (0 : Int) ≤ (m : Int) := by omega
        by_cases hml : m < rn
        · have hml' : m < x.row.length := by have := HRN.out; omega
          obtain ⟨y, hy⟩ : ∃ y, x.row[m]? = some y := ⟨_, List.getElem?_eq_getElem hml'⟩
          have hmi : (m : Int) < (rn : Int) := by omega
          have hmn : (m : Int) < 9223372036854775807 := by omega
          obtain ⟨hcy, hsy⟩ := HJ.out m y hy
          have hstep := Sk.rowB_step x.row m y hy
          have HB : Hid ((Sk.rowB (x.row.take (m + 1)) : Int) = (Sk.rowB (x.row.take m) : Int) + (8 + (y.s.size : Int))) := Lib.hid (by omega)
          have hwr : IntKind.i64.wrap (8 + (y.s.size : Int)) = 8 + (y.s.size : Int) := by rw [IntKind.wrap_i64]; omega
          generalize (Sk.rowB (x.row.take m) : Int) = rm at HB ⊢
          generalize y.s = ys at hcy hsy HB hwr
          clear hstep hy hml'
          go_wp2
          go_round
          case rel => exact ⟨m + 1, by omega, by simp, by rw [Sk.wrap_add, HB.out]; congr 2; omega⟩
          case measure => simp [intOf]; omega
        · obtain rfl : m = rn := by omega
          have hmi : ¬ (m : Int) < (m : Int) := by omega
          have HE : Hid (bs + 8 + (Sk.rowB (x.row.take m) : Int) = (Sk.bytes ((L.take (k + 1)).map Sk.E.d) : Int)) := Lib.hid (by
            rw [HS.out, List.take_of_length_le (by have := HRN.out; omega)]
            omega)
          generalize bs + 8 + (Sk.rowB (x.row.take m) : Int) = T at HE ⊢
          clear HS HJ
          go_wp2
          go_round
          case rel => exact ⟨k + 1, by omega, by simp, by rw [HE.out]⟩
          case measure => simp [intOf]; omega
    · obtain rfl : k = L.length := by omega
      have hki : ¬ (L.length : Int) < (L.length : Int) := by omega
      rw [HEND.out]
      clear HX HST
      go_wp2
      go_ret
      exact ⟨rfl, rfl⟩
end Go.Proofs.YtfjhffldhpcdmaaDoor

namespace Go.Proofs.YtfjhffldhpcdmaaDoor
open Go Go.RowKit
theorem Sk.set_self {α : Type} (l : List α) (k : Nat) (x : α) (h : l[k]? = some x) : l.set k x = l := by
  obtain ⟨hk, rfl⟩ := List.getElem?_eq_some_iff.1 h
  exact List.set_getElem_self hk
/-- A block of two, set anew. -/
theorem Sk.two_set {W : World} {q : Nat} {t : TypeId} {x y : Value} (x' y' : Value) (h : W.heap[q]? = some (.cells #[x, y] t (0, 0))) : ((W.setCell ⟨q, 0, none⟩ x').setCell ⟨q, 1, none⟩ y').heap[q]? = some (.cells #[x', y'] t (0, 0)) := by
  simp [World.setCell, Array.getElem?_modify, h]
/-- The same text in the place of a text. -/
theorem Sk.Rw.again {base g k n c : Nat} {w : World} {l : List Kn.V} {x : Kn.V} (h : Sk.Rw base w (.slice (some ⟨g, 0, none⟩) n c) l) (hx : l[k]? = some x) :
    Sk.Rw base (w.setCell ⟨g, k * 3 + 2, none⟩ (.string x.s)) (.slice (some ⟨g, 0, none⟩) n c) l := by
  have := Dk.Own.set Sk.ve_len h (g := g) rfl hx (j := 2) (by decide) (.string x.s) x rfl
  rwa [Sk.set_self l k x hx] at this
set_option maxHeartbeats 4000000 in
set_option maxRecDepth 100000 in
/-- A deed in memory of its own. -/
theorem Sk.kept_c {w : World} (gn : Bool) {v : Value} {l : List Kn.V} (h : Sk.In w v l) :
    Calls Tryd.prog 25 #[.agg #[.bool gn, v]] w fun e w' => ∃ u, e = .returned (.agg #[.bool gn, u]) ∧ Sk.Rw w.heap.size w' u l ∧ Below w.heap.size w w' := by
  obtain ⟨a, c, hv, hz, hl, _⟩ := id h
  obtain ⟨wb, hwb⟩ : ∃ wb, wb = (w.alloc (.cells #[.bool gn, .slice a l.length c] 37)).alloc (.cells #[.bool false, .slice none 0 0] 37) := ⟨_, rfl⟩
  obtain ⟨hb, hs, hc⟩ := Sk.box2 hwb
  have cc : Calls Tryd.prog 32 #[.agg #[.bool gn, .slice a l.length c]] wb _ := Sk.given_c (w := wb) gn (by rw [← hv]; exact h.later hb)
  have hblk : wb.heap[w.heap.size]? = some (.cells #[.bool gn, .slice a l.length c] 37 (0, 0)) := by
    rw [hwb]
    exact (((Below.refl _ (w.alloc (.cells #[.bool gn, .slice a l.length c] 37))).alloc (Nat.le_refl _) _).block w.heap.size (by simp)).trans (heap_alloc_new w _)
  obtain ⟨⟨t0, t1⟩, t2⟩ := hc wb (Below.refl _ _)
  have HM := Lib.hid hz
  have HS : Hid (wb.heap.size = w.heap.size + 2 ∧ Below w.heap.size w wb ∧ l.length ≤ 4398046511104) := Lib.hid ⟨hs, hb, hl⟩
  have HBLK := Lib.hid hblk
  have HT2 := Lib.hid t2
  rw [hv]
  clear h hv hc hs hb t2 hz hblk hl
  go_enter Tryd.func25, Tryd.ntmps25
  go_wp2_with fail
  rw [← hwb]
  clear hwb
  with_reducible refine cc.mono ?_
  rintro e w1 ⟨u, rfl, hu, g1⟩
  have HU := Lib.hid hu
  have HG := Lib.hid g1
  have HB1 := Lib.hid ((g1.block w.heap.size (by have := HS.out.1; omega)).trans HBLK.out)
  have b1 := (g1.block w.heap.size (by have := HS.out.1; omega)).trans HBLK.out
  have t0 : w1.cell? ⟨w.heap.size, 0, none⟩ = some (.bool gn) := by rw [cell_of_row _ _ _ _ _ _ b1]; rfl
  have t1 : w1.cell? ⟨w.heap.size, 1, none⟩ = some (.slice a l.length c) := by rw [cell_of_row _ _ _ _ _ _ b1]; rfl
  have f0 := frozen_of_row _ _ 0 _ _ b1
  have f1 := frozen_of_row _ _ 1 _ _ b1
  have HZ := Lib.hid ((g1.block (w.heap.size + 1) (by have := HS.out.1; omega)).trans HT2.out)
  obtain ⟨av, cv, rfl⟩ : ∃ a c, u = .slice a l.length c := by
    rcases hu.form with ⟨e, e0⟩ | ⟨g, c, e, _⟩
    · exact ⟨none, 0, by rw [e, e0]; rfl⟩
    · exact ⟨_, c, e⟩
  clear b1 hu g1 cc HT2 HBLK
  go_wp2_with fail
  have hst : ∃ W, W = (w1.setCell ⟨w.heap.size, 0, none⟩ (.bool gn)).setCell ⟨w.heap.size, 1, none⟩ (.slice av l.length cv) := ⟨_, rfl⟩
  obtain ⟨w2, hw2⟩ := hst
  have hC : ∀ W, Below (w.heap.size + 2) w2 W → W.cell? ⟨w.heap.size, 0, none⟩ = some (.bool gn) ∧ W.cell? ⟨w.heap.size, 1, none⟩ = some (.slice av l.length cv) ∧ W.heap[w.heap.size + 1]? = some (.cells #[.bool false, .slice none 0 0] 37 (0, 0)) := fun W g => by
    have eb : w2.heap[w.heap.size]? = some (.cells #[.bool gn, .slice av l.length cv] 37 (0, 0)) := by rw [hw2]; exact Sk.two_set _ _ HB1.out
    have e0 : w2.cell? ⟨w.heap.size, 0, none⟩ = some (.bool gn) := by rw [cell_of_row _ _ _ _ _ _ eb]; rfl
    have e1 : w2.cell? ⟨w.heap.size, 1, none⟩ = some (.slice av l.length cv) := by rw [cell_of_row _ _ _ _ _ _ eb]; rfl
    have e2 : w2.heap[w.heap.size + 1]? = some (.cells #[.bool false, .slice none 0 0] 37 (0, 0)) := by
      rw [hw2, Below.heap_setCell _ _ _ _ (by show w.heap.size + 1 ≠ w.heap.size; omega), Below.heap_setCell _ _ _ _ (by show w.heap.size + 1 ≠ w.heap.size; omega)]
      exact HZ.out
    exact ⟨(g.cell (p := ⟨w.heap.size, 0, none⟩) (by show w.heap.size < _; omega)).trans e0, (g.cell (p := ⟨w.heap.size, 1, none⟩) (by show w.heap.size < _; omega)).trans e1, (g.block _ (by omega)).trans e2⟩
  have HC := Lib.hid hC
  have HR : Hid (Sk.Rw (w.heap.size + 2) w2 (.slice av l.length cv) l ∧ Below w.heap.size w w2 ∧ w.heap.size + 2 ≤ w2.heap.size) := Lib.hid (by
    have h1 := HS.out.1
    have h2 := HG.out.size
    have hu : Sk.Rw (w.heap.size + 2) w1 (.slice av l.length cv) l := by rw [← h1]; exact HU.out
    refine ⟨by rw [hw2]; exact (hu.put (by omega)).put (by omega), by rw [hw2]; exact Sk.put2 (HS.out.2.1.trans (HG.out.mono (by omega))) (Nat.le_refl _) _ _, by rw [hw2]; simp [World.setCell]; omega⟩)
  rw [← hw2]
  clear hw2 hC t0 t1 f0 f1 HZ HU HG
  have hl := HS.out.2.2
  have hl0 : (0 : Int) ≤ (l.length : Int) := by omega
  clear HS
  go_loopw [9] (fun i wr => ∃ k : Nat, k ≤ l.length ∧ i = .int .i64 k ∧ Below (w.heap.size + 2) w2 wr ∧ Sk.Rw (w.heap.size + 2) wr (.slice av l.length cv) l) (fun i _ => l.length - (intOf i).toNat)
  case atStart => exact ⟨0, Nat.zero_le _, rfl, Below.refl _ _, HR.out.1⟩
  case round =>
    obtain ⟨k, hk, rfl, hB, hR⟩ := hrel
    have HB := Lib.hid hB
    have HR2 := Lib.hid hR
    have hk0 : (0 : Int) ≤ (k : Int) := by omega
    by_cases hkl : k < l.length
    · have hki : (k : Int) < (l.length : Int) := by omega
      obtain ⟨x, hx⟩ : ∃ x, l[k]? = some x := ⟨_, List.getElem?_eq_getElem hkl⟩
      obtain ⟨g, rfl⟩ : ∃ g, av = some ⟨g, 0, none⟩ := by
        rcases hR.form with ⟨_, e0⟩ | ⟨g, c, e, _⟩
        · rw [e0] at hkl; simp at hkl
        · simp only [Value.slice.injEq] at e
          exact ⟨g, e.1⟩
      have HX : Hid (∀ W, Below wr.heap.size wr W → W.cell? ⟨g, k * 3 + 2, none⟩ = some (.string x.s) ∧ W.frozen? ⟨g, k * 3 + 2, none⟩ = false ∧ W.cell? ⟨w.heap.size, 1, none⟩ = some (.slice (some ⟨g, 0, none⟩) l.length cv)) := Lib.hid fun W gW => by
        have h2 := HR2.out.kept gW
        obtain ⟨cs, hcs⟩ := h2.typed g rfl
        exact ⟨h2.cell Sk.ve_len (g := g) rfl hx (j := 2) (by decide), frozen_of_row _ _ _ _ _ hcs, (HC.out W (HB.out.trans (gW.mono (by have := HB.out.size; have := HR.out.2.2; omega)))).2.1⟩
      have hxz := HM.out x (List.mem_of_getElem? hx)
      have cc := Tx.clone_c x.s wr.drew (by unfold Kn.Z at hxz; omega)
      have CC := Lib.hid cc
      have HSET : Hid (∀ W, Below wr.heap.size wr W → Below (w.heap.size + 2) w2 (W.setCell ⟨g, k * 3 + 2, none⟩ (.string x.s)) ∧ Sk.Rw (w.heap.size + 2) (W.setCell ⟨g, k * 3 + 2, none⟩ (.string x.s)) (.slice (some ⟨g, 0, none⟩) l.length cv) l) := Lib.hid fun W gW => by
        have hg := HR2.out.base_le g rfl
        exact ⟨(HB.out.trans (gW.mono (by have := HB.out.size; have := HR.out.2.2; omega))).setCell (p := ⟨g, k * 3 + 2, none⟩) hg _, Sk.Rw.again (HR2.out.kept gW) hx⟩
      obtain ⟨c0, f0, r0⟩ := HX.out wr.drew (Below.refl _ wr).drew
      clear hB hR hx hxz cc HM
      generalize x.s = s at CC HX HSET c0
      go_wp2_with fail
      go_region_law (first
        | (go_simp; go_at_call 36; (with_reducible refine CC.out.mono ?_); rintro e w3 ⟨rfl, g3⟩
           have HG3 : Hid (Below wr.heap.size wr w3) := Lib.hid ((Below.refl _ wr).drew.trans g3)
           obtain ⟨c0, f0, r0⟩ := HX.out w3 HG3.out
           clear g3))
      all_goals
        have HQ := Lib.hid (HSET.out _ HG3.out)
        go_wp2
        go_roundw
        case rel => exact ⟨k + 1, by omega, by simp, HQ.out.1, HQ.out.2⟩
        case measure => simp [intOf]; omega
    · obtain rfl : k = l.length := by omega
      have hki : ¬ (l.length : Int) < (l.length : Int) := by omega
      obtain ⟨r0, r1, r2⟩ := HC.out wr HB.out
      have z0 : wr.cell? ⟨w.heap.size + 1, 0, none⟩ = some (.bool false) := by rw [cell_of_row _ _ _ _ _ _ r2]; rfl
      have z1 : wr.cell? ⟨w.heap.size + 1, 1, none⟩ = some (.slice none 0 0) := by rw [cell_of_row _ _ _ _ _ _ r2]; rfl
      have f0 := frozen_of_row _ _ 0 _ _ r2
      have f1 := frozen_of_row _ _ 1 _ _ r2
      have HE : Hid (Sk.Rw w.heap.size ((wr.setCell ⟨w.heap.size + 1, 0, none⟩ (.bool gn)).setCell ⟨w.heap.size + 1, 1, none⟩ (.slice av l.length cv)) (.slice av l.length cv) l ∧ Below w.heap.size w ((wr.setCell ⟨w.heap.size + 1, 0, none⟩ (.bool gn)).setCell ⟨w.heap.size + 1, 1, none⟩ (.slice av l.length cv))) := Lib.hid
        ⟨((HR2.out.put (by omega)).put (by omega)).mono (by omega), Sk.put2 (HR.out.2.1.trans (HB.out.mono (by omega))) (by omega) _ _⟩
      clear hB hR HM HC HR HR2 HB r2
      go_wp2
      (try simp only [Exit.inBlock, Exit.then])
      refine bodyPost_ret (v := .agg #[.bool gn, .slice av l.length cv]) ?_ rfl ⟨_, rfl, HE.out⟩
      rw [Sk.results_cell rfl]
      go_simp
end Go.Proofs.YtfjhffldhpcdmaaDoor

namespace Go.Proofs.YtfjhffldhpcdmaaDoor
open Go Go.RowKit
/-- A node whose key can be read. -/
def Sk.Ky (w : World) (b : Nat) (k : Kn.V) : Prop := ∃ g n c, w.cell? ⟨b, 1, none⟩ = some (.slice (some ⟨g, 0, none⟩) n c) ∧ 0 < n ∧ Kn.At w g 0 k
theorem Sk.Ky.later {w w' : World} {b : Nat} {k : Kn.V} (h : Sk.Ky w b k) (g : Below w.heap.size w w') : Sk.Ky w' b k := by
  obtain ⟨q, n, c, h1, h2, h3⟩ := h
  exact ⟨q, n, c, (g.cell (p := ⟨b, 1, none⟩) (World.block_lt_of_cell? w _ h1)).trans h1, h2, h3.later g⟩
set_option maxHeartbeats 1000000 in
set_option maxRecDepth 100000 in
/-- A node's key. -/
theorem Sk.key_c {w : World} {b : Nat} {k : Kn.V} (h : Sk.Ky w b k) :
    Calls Tryd.prog 40 #[.pointer (some ⟨b, 0, none⟩)] w fun e w' => e = .returned k.val ∧ Below w.heap.size w w' := by
  obtain ⟨wb, hwb⟩ : ∃ wb, wb = w.alloc (.cells #[.bool false, .int .i64 0, .string ⟨#[]⟩] 25) := ⟨_, rfl⟩
  have hb : Below w.heap.size w wb := by rw [hwb]; exact (Below.refl _ w).alloc (Nat.le_refl _) _
  have hz : wb.heap[w.heap.size]? = some (.cells #[.bool false, .int .i64 0, .string ⟨#[]⟩] 25 (0, 0)) := by rw [hwb]; exact heap_alloc_new w _
  obtain ⟨g, n, c, c1, hn, ⟨k0, k1, k2⟩⟩ := h.later hb
  have z0 : wb.cell? ⟨w.heap.size, 0, none⟩ = some (.bool false) := by rw [cell_of_row _ _ _ _ _ _ hz]; rfl
  have z1 : wb.cell? ⟨w.heap.size, 1, none⟩ = some (.int .i64 0) := by rw [cell_of_row _ _ _ _ _ _ hz]; rfl
  have z2 : wb.cell? ⟨w.heap.size, 2, none⟩ = some (.string ⟨#[]⟩) := by rw [cell_of_row _ _ _ _ _ _ hz]; rfl
  have f0 := frozen_of_row _ _ 0 _ _ hz
  have f1 := frozen_of_row _ _ 1 _ _ hz
  have f2 := frozen_of_row _ _ 2 _ _ hz
  have hn' : (0 : Int) < (n : Int) := by omega
  obtain ⟨kn, ki, ks⟩ := k
  unfold Kn.V.val
  clear h hb hz
  subst hwb
  go_enter Tryd.func40, Tryd.ntmps40
  go_wp2
  (try simp only [Exit.inBlock, Exit.then])
  refine bodyPost_ret (v := .agg #[.bool kn, .int .i64 ki, .string ks]) ?_ rfl ⟨rfl, (Below.refl _ w).alloc (Nat.le_refl _) _⟩
  rw [Sk.results_cell rfl]
  go_simp
set_option maxHeartbeats 4000000 in
set_option maxRecDepth 100000 in
/-- What a deed counts. -/
theorem Sk.size_c {w : World} (gn : Bool) {v : Value} {l : List Kn.V} (h : Sk.In w v l) :
    Calls Tryd.prog 28 #[.agg #[.bool gn, v]] w fun e w' => e = .returned (.int .i64 (wrap64 (8 + (Sk.rowB l : Int)))) ∧ Below w.heap.size w w' := by
  obtain ⟨a, c, rfl, hz, hl, h⟩ := h
  obtain ⟨wb, hwb⟩ : ∃ wb, wb = w.alloc (.cells #[.bool gn, .slice a l.length c] 37) := ⟨_, rfl⟩
  have hb : Below w.heap.size w wb := by rw [hwb]; exact (Below.refl _ w).alloc (Nat.le_refl _) _
  have hblk : wb.heap[w.heap.size]? = some (.cells #[.bool gn, .slice a l.length c] 37 (0, 0)) := by rw [hwb]; exact heap_alloc_new w _
  have r1 : wb.cell? ⟨w.heap.size, 1, none⟩ = some (.slice a l.length c) := by rw [cell_of_row _ _ _ _ _ _ hblk]; rfl
  have HX : Hid (∀ i x, l[i]? = some x → ∃ b o, a = some ⟨b, o, none⟩ ∧ (∀ W, Below wb.heap.size wb W → Kn.At W b (o + i * 3) x) ∧ x.s.size ≤ 140737488351232) := Lib.hid fun i x hx => by
    rcases h with ⟨_, _, rfl⟩ | ⟨b, o, ha, _, h⟩
    · cases hx
    · exact ⟨b, o, ha, fun W g => ((h i x hx).later hb).later g, hz x (List.mem_of_getElem? hx)⟩
  have HB := Lib.hid hb
  have HT : Hid (l.take l.length = l) := Lib.hid List.take_length
  have hli : (l.length : Int) ≤ 4398046511104 := by omega
  have hw8 : wrap64 (8 : Int) = 8 := by unfold wrap64; omega
  have HW8 := Lib.hid hw8
  clear h hb hz hl hblk hw8
  go_enter Tryd.func28, Tryd.ntmps28
  go_wp2_with fail
  rw [← hwb]
  clear hwb
  go_wp2_with fail
  go_loopw [3, 5, 9] (fun n _ i wr => ∃ k : Nat, k ≤ l.length ∧ i = .int .i64 k ∧ n = .int .i64 (wrap64 (8 + (Sk.rowB (l.take k) : Int))) ∧ Below wb.heap.size wb wr) (fun _ _ i _ => l.length - (intOf i).toNat)
  case atStart => exact ⟨0, Nat.zero_le _, rfl, by rw [show Sk.rowB (l.take 0) = 0 from rfl]; rw [show (8 : Int) + ((0 : Nat) : Int) = 8 from rfl, HW8.out], Below.refl _ _⟩
  case round =>
    obtain ⟨k, hk, rfl, rfl, hB⟩ := hrel
    have HB2 := Lib.hid hB
    have hk0 : (0 : Int) ≤ (k : Int) := by omega
    by_cases hkl : k < l.length
    · have hki : (k : Int) < (l.length : Int) := by omega
      obtain ⟨x, hx⟩ : ∃ x, l[k]? = some x := ⟨_, List.getElem?_eq_getElem hkl⟩
      obtain ⟨b, o, rfl, hat, hxs⟩ := HX.out k x hx
      obtain ⟨x0, x1, x2⟩ := hat wr hB
      have hstep := Sk.rowB_step l k x hx
      have HS : Hid ((Sk.rowB (l.take (k + 1)) : Int) = (Sk.rowB (l.take k) : Int) + (8 + (x.s.size : Int))) := Lib.hid (by omega)
      have hwr : IntKind.i64.wrap (8 + (x.s.size : Int)) = 8 + (x.s.size : Int) := by rw [IntKind.wrap_i64]; omega
      have HN : Hid (∀ W, Below wr.heap.size wr W → Below wb.heap.size wb W) := Lib.hid fun W g => HB2.out.trans (g.mono HB2.out.size)
      obtain ⟨xn, xi, xs⟩ := x
      simp only at x0 x1 x2 HS hwr hxs
      generalize (Sk.rowB (l.take k) : Int) = rm at HS ⊢
      clear hx hat hstep hB HX
      go_wp2
      go_roundw
      case rel => exact ⟨k + 1, by omega, by simp, by rw [Sk.wrap_add, HS.out]; congr 2; omega, HN.out _ ((Below.refl _ wr).alloc (Nat.le_refl _) _)⟩
      case measure => simp [intOf]; omega
    · obtain rfl : k = l.length := by omega
      have hki : ¬ (l.length : Int) < (l.length : Int) := by omega
      have HE : Hid (Below w.heap.size w wr) := Lib.hid (HB.out.trans (hB.mono HB.out.size))
      rw [HT.out]
      clear hB HX HB2
      go_wp2
      go_ret
      exact ⟨rfl, HE.out⟩
end Go.Proofs.YtfjhffldhpcdmaaDoor

namespace Go.Proofs.YtfjhffldhpcdmaaDoor
open Go Go.RowKit
set_option maxHeartbeats 2000000 in
set_option maxRecDepth 100000 in
theorem Sk.hasno_c {w : World} (k : Kn.V) :
    Calls Tryd.prog 27 #[.pointer none, k.val] w fun e w' => e = .returned (.bool false) ∧ Below w.heap.size w w' := by
  obtain ⟨kn, ki, ks⟩ := k
  have HB : Hid (Below w.heap.size w (w.alloc (.cells #[.bool kn, .int .i64 ki, .string ks] 25))) := Lib.hid ((Below.refl _ w).alloc (Nat.le_refl _) _)
  unfold Kn.V.val
  go_enter Tryd.func27, Tryd.ntmps27
  go_wp2_with fail
  generalize w.alloc _ = wb at HB ⊢
  go_quiet (fail)
  go_wp2
  go_ret
  exact ⟨rfl, Kn.below_drewN HB.out _⟩
set_option maxHeartbeats 2000000 in
set_option maxRecDepth 100000 in
theorem Sk.has_c {w : World} {b : Nat} {x : Kn.V} (h : Sk.Ky w b x) (k : Kn.V) :
    Calls Tryd.prog 27 #[.pointer (some ⟨b, 0, none⟩), k.val] w fun e w' => e = .returned (.bool (Kn.cmp x k == 0)) ∧ Below w.heap.size w w' := by
  obtain ⟨wb, hwb⟩ : ∃ wb, wb = w.alloc (.cells #[.bool k.null, .int .i64 k.n, .string k.s] 25) := ⟨_, rfl⟩
  have hb : Below w.heap.size w wb := by rw [hwb]; exact (Below.refl _ w).alloc (Nat.le_refl _) _
  have hk : Kn.At wb w.heap.size 0 k := by rw [hwb]; exact Kn.At.new w k _
  have CK := Lib.hid (Sk.key_c ((h.later hb).later (Below.refl _ wb).drew))
  have CC : Hid (∀ W, Below wb.heap.size wb W → Calls Tryd.prog 39 #[x.val, k.val] W fun e w' => e = .returned (.int .i64 (Kn.cmp x k)) ∧ Below wb.heap.size wb w') := Lib.hid fun W g =>
    (Kn.compare_c x k W).mono fun e w' hh => ⟨hh.1, g.trans (hh.2.mono g.size)⟩
  have HK : Hid (∀ W, Below wb.heap.size wb W → Kn.At W w.heap.size 0 k) := Lib.hid fun W g => hk.later g
  have HB : Hid (∀ W, Below wb.heap.size wb W → Below w.heap.size w W) := Lib.hid fun W g => hb.trans (g.mono hb.size)
  obtain ⟨k0, k1, k2⟩ := HK.out wb.drew (Below.refl _ wb).drew
  generalize Kn.cmp x k = C at CC ⊢
  generalize x.val = xv at CK CC
  obtain ⟨kn, ki, ks⟩ := k
  unfold Kn.V.val at CC ⊢
  clear h hb hk
  go_enter Tryd.func27, Tryd.ntmps27
  go_wp2_with fail
  rw [← hwb]
  clear hwb
  go_region_law (first
    | (go_simp; go_at_call 40; (with_reducible refine CK.out.mono ?_); rintro e w1 ⟨rfl, g1⟩
       have G1 : Hid (Below wb.heap.size wb w1) := Lib.hid ((Below.refl _ wb).drew.trans g1)
       obtain ⟨k0, k1, k2⟩ := HK.out w1 G1.out
       clear g1)
    | (go_simp; go_at_call 39; (with_reducible refine (CC.out _ G1.out).mono ?_); rintro e w2 ⟨rfl, g2⟩
       have G2 := Lib.hid g2
       clear g2))
  all_goals
    have HE := Lib.hid (HB.out _ G2.out)
    clear G1 G2 CK CC HK
    go_wp2
    go_ret
    exact ⟨rfl, HE.out⟩
/-- The table of the package math/bits. -/
def Sk.Tab (w : World) : Prop := ∀ j : Nat, j < 64 → ∃ t : Nat, t < 64 ∧ w.cell? ⟨0, j, none⟩ = some (.int .u8 (t : Int))
theorem Sk.Tab.lt {w : World} (h : Sk.Tab w) : 0 < w.heap.size := by
  obtain ⟨t, _, hc⟩ := h 0 (by decide)
  exact World.block_lt_of_cell? w _ hc
theorem Sk.Tab.later {B : Nat} {w w' : World} (h : Sk.Tab w) (g : Below B w w') (hB : 0 < B) : Sk.Tab w' := fun j hj => by
  obtain ⟨t, ht, hc⟩ := h j hj
  exact ⟨t, ht, (g.cell (p := ⟨0, j, none⟩) hB).trans hc⟩
set_option maxHeartbeats 1000000 in
set_option maxRecDepth 100000 in
theorem Sk.tz_c {w : World} (h : Sk.Tab w) (x : Int) :
    Calls Tryd.prog 48 #[.int .u64 x] w fun e w' => ∃ t : Nat, t < 65 ∧ e = .returned (.int .i64 (t : Int)) ∧ w' = w := by
  by_cases hx : x = 0
  · subst hx
    go_enter Tryd.func48, Tryd.ntmps48
    go_wp2
    go_ret
    exact ⟨64, by decide, rfl, rfl⟩
  · have hx2 : (x == 0) = false := by rw [beq_eq_false_iff_ne]; exact hx
    obtain ⟨J, hJ, hJ64⟩ : ∃ J : Nat, IntKind.u64.wrap (bits .and .u64 x (IntKind.u64.wrap (-x)) * 285870213051353865) / 288230376151711744 = (J : Int) ∧ J < 64 := by
      generalize bits .and .u64 x (IntKind.u64.wrap (-x)) * 285870213051353865 = y
      have hy : 0 ≤ IntKind.u64.wrap y ∧ IntKind.u64.wrap y < 18446744073709551616 := by
        have e : IntKind.u64.wrap y = y % 18446744073709551616 := by rfl
        rw [e]
        omega
      exact ⟨(IntKind.u64.wrap y / 288230376151711744).toNat, by omega, by omega⟩
    obtain ⟨t, ht, hc⟩ := h J hJ64
    have hJ0 : (0 : Int) ≤ (J : Int) := by omega
    have hJi : (J : Int) < 64 := by omega
    have ht0 : (0 : Int) ≤ (t : Int) := by omega
    have hti : (t : Int) < 64 := by omega
    clear h hx hJ64
    go_enter Tryd.func48, Tryd.ntmps48
    go_wp2
    go_ret
    exact ⟨t, by omega, rfl, rfl⟩
end Go.Proofs.YtfjhffldhpcdmaaDoor
