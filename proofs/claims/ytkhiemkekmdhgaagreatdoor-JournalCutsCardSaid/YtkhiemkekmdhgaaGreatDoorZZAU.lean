import Derived.Test.YtkhiemkekmdhgaaGreatDoorZZAM
import Derived.Deep.OwnRows
import Derived.Test.YtkhiemkekmdhgaaGreatDoorZZAD
import Derived.BigQuiet
import Derived.Deep.RegionLaw
import Derived.Deep.RegionLawGrows
import Derived.StillTailTactics
import Derived.Deep.RegionHeld3
import Derived.Test.YtkhiemkekmdhgaaGreatDoorZZAR
import Derived.Test.YtkhiemkekmdhgaaGreatDoorZZAA
namespace Go.Proofs.YtkhiemkekmdhgaaGreatDoor
section
open Go Go.RowKit
structure Sk.Nd where
 b : Nat
 gone : Bool
 rv : Value
 row : List Kn.V
 num : Nat
 h : Nat
def Sk.Nd.d (x : Sk.Nd) : Dd.D := ⟨x.gone, x.row⟩
def Sk.kn (x : Sk.Nd) : Kn.V := Sk.kd x.d
def Sk.Nd.up (x : Sk.Nd) (i : Nat) : Sk.Nd := { x with h := i }
def Sk.pt (o : Option Nat) : Value := .pointer (o.map fun b => ⟨b, 0, none⟩)
def Sk.lnk (i : Nat) : List Sk.Nd → Option Nat
 | [] => none
 | x :: r => if i < x.h then some x.b else Sk.lnk i r
def Sk.Nd.f (x : Sk.Nd) (r : List Sk.Nd) (j : Nat) : Value :=
 if j = 0 then .bool x.gone else if j = 1 then x.rv else if j = 2 then .int .i64 (x.num : Int) else if j - 3 < x.h then Sk.pt (Sk.lnk (j - 3) r) else .pointer none
def Sk.hf (st c b : Value) (N : List Sk.Nd) (j : Nat) : Value := if j < 12 then Sk.pt (Sk.lnk j N) else if j = 12 then st else if j = 13 then c else b
def Sk.Seg (w : World) : List Sk.Nd → List Sk.Nd → Prop
 | [], _ => True
 | x :: A, B => w.rowIs x.b 117 15 (x.f (A ++ B)) ∧ Sk.Seg w A B
def Sk.lst (i : Nat) : Nat × Nat → List Sk.Nd → Nat × Nat
 | q, [] => q
 | q, x :: r => Sk.lst i (if i < x.h then (x.b, 3) else q) r
theorem Sk.lnk_low {i : Nat} {C : List Sk.Nd} (B : List Sk.Nd) (h : ∀ c ∈ C, c.h ≤ i) : Sk.lnk i (C ++ B) = Sk.lnk i B := by
 induction C with
 | nil => rfl
 | cons x C ih =>
   rw [List.cons_append, Sk.lnk, if_neg (by have := h x List.mem_cons_self; omega)]
   exact ih fun c hc => h c (List.mem_cons_of_mem _ hc)
theorem Sk.lst_low {i : Nat} {C : List Sk.Nd} (q : Nat × Nat) (h : ∀ c ∈ C, c.h ≤ i) : Sk.lst i q C = q := by
 induction C with
 | nil => rfl
 | cons x C ih =>
   rw [Sk.lst, if_neg (by have := h x List.mem_cons_self; omega)]
   exact ih fun c hc => h c (List.mem_cons_of_mem _ hc)
theorem Sk.lst_append (i : Nat) (q : Nat × Nat) (A B : List Sk.Nd) : Sk.lst i q (A ++ B) = Sk.lst i (Sk.lst i q A) B := by
 induction A generalizing q with
 | nil => rfl
 | cons x A ih => rw [List.cons_append, Sk.lst, Sk.lst]; exact ih _
theorem Sk.lst_high {i : Nat} (q : Nat × Nat) (A : List Sk.Nd) {x : Sk.Nd} (h : i < x.h) : Sk.lst i q (A ++ [x]) = (x.b, 3) := by
 rw [Sk.lst_append, Sk.lst, if_pos h, Sk.lst]
theorem Sk.lst_down (i : Nat) (q : Nat × Nat) (L : List Sk.Nd) : ∃ A C, L = A ++ C ∧ Sk.lst (i + 1) q L = Sk.lst i q A := by
 suffices h : ∀ M : List Sk.Nd, ∃ A C, M.reverse = A ++ C ∧ Sk.lst (i + 1) q M.reverse = Sk.lst i q A by
  have := h L.reverse
  rwa [List.reverse_reverse] at this
 intro M
 induction M with
 | nil => exact ⟨[], [], rfl, rfl⟩
 | cons x M ih =>
   obtain ⟨A, C, e, hl⟩ := ih
   rw [List.reverse_cons]
   by_cases hx : i + 1 < x.h
   ·exact ⟨M.reverse ++ [x], [], (List.append_nil _).symm, by rw [Sk.lst_high q _ hx, Sk.lst_high q _ (by omega)]⟩
   ·refine ⟨A, C ++ [x], by rw [e, List.append_assoc], ?_⟩
    rw [Sk.lst_append, Sk.lst, if_neg hx, Sk.lst, hl]
theorem Sk.first (i : Nat) (L : List Sk.Nd) : (Sk.lnk i L = none ∧ ∀ c ∈ L, c.h ≤ i) ∨ ∃ A x B, L = A ++ x :: B ∧ (∀ c ∈ A, c.h ≤ i) ∧ i < x.h ∧ Sk.lnk i L = some x.b := by
 induction L with
 | nil => exact .inl ⟨rfl, fun c hc => (by cases hc)⟩
 | cons y L ih =>
   by_cases hy : i < y.h
   ·exact .inr ⟨[], y, L, rfl, fun c hc => (by cases hc), hy, by rw [Sk.lnk, if_pos hy]⟩
   ·rcases ih with ⟨h1, h2⟩ | ⟨A, x, B, rfl, h2, h3, h4⟩
    ·refine .inl ⟨by rw [Sk.lnk, if_neg hy, h1], fun c hc => ?_⟩
     rcases List.mem_cons.1 hc with rfl | hc
     ·omega
     ·exact h2 c hc
    ·refine .inr ⟨y :: A, x, B, rfl, fun c hc => ?_, h3, by rw [Sk.lnk, if_neg hy, h4]⟩
     rcases List.mem_cons.1 hc with rfl | hc
     ·omega
     ·exact h2 c hc
theorem Sk.lst_or (i : Nat) (L : List Sk.Nd) : (∀ c ∈ L, c.h ≤ i) ∨ ∃ y ∈ L, i < y.h ∧ (∀ q, Sk.lst i q L = (y.b, 3)) ∧ ∃ u, ∀ B, Sk.lnk i (L ++ B) = some u := by
 induction L with
 | nil => exact .inl fun c hc => by cases hc
 | cons x L ih =>
   rcases ih with h | ⟨y, hy, h1, h2, u, h3⟩
   ·by_cases hx : i < x.h
    ·refine .inr ⟨x, List.mem_cons_self, hx, fun q => ?_, x.b, fun B => by rw [List.cons_append, Sk.lnk, if_pos hx]⟩
     rw [Sk.lst, if_pos hx, Sk.lst_low _ h]
    ·refine .inl fun c hc => ?_
     rcases List.mem_cons.1 hc with rfl | hc
     ·omega
     ·exact h c hc
   ·refine .inr ⟨y, List.mem_cons_of_mem _ hy, h1, fun q => by rw [Sk.lst]; exact h2 _, ?_⟩
    by_cases hx : i < x.h
    ·exact ⟨x.b, fun B => by rw [List.cons_append, Sk.lnk, if_pos hx]⟩
    ·exact ⟨u, fun B => by rw [List.cons_append, Sk.lnk, if_neg hx]; exact h3 B⟩
theorem Sk.lnk_up {i j : Nat} (hj : j ≠ i) (n : Sk.Nd) (hn : n.h = i) (A B : List Sk.Nd) : Sk.lnk j (A ++ n.up (i + 1) :: B) = Sk.lnk j (A ++ n :: B) := by
 induction A with
 | nil =>
   have e1 : (n.up (i + 1)).h = i + 1 := rfl
   have e2 : (n.up (i + 1)).b = n.b := rfl
   rw [List.nil_append, List.nil_append, Sk.lnk, Sk.lnk, e1, e2, hn]
   by_cases h : j < i
   ·rw [if_pos h, if_pos (by omega)]
   ·rw [if_neg h, if_neg (by omega)]
 | cons x A ih => rw [List.cons_append, List.cons_append, Sk.lnk, Sk.lnk, ih]
theorem Sk.Nd.f_next {x : Sk.Nd} {r : List Sk.Nd} {i : Nat} (h : i < x.h) : x.f r (3 + i) = Sk.pt (Sk.lnk i r) := by
 unfold Sk.Nd.f
 rw [if_neg (by omega), if_neg (by omega), if_neg (by omega), show 3 + i - 3 = i by omega, if_pos h]
theorem Sk.Nd.f_congr {x : Sk.Nd} {r r' : List Sk.Nd} (h : ∀ i, i < x.h → Sk.lnk i r' = Sk.lnk i r) (j : Nat) : x.f r j = x.f r' j := by
 unfold Sk.Nd.f
 by_cases hj : j - 3 < x.h
 ·rw [h _ hj]
 ·rw [if_neg hj, if_neg hj]
section
variable {w : World}
theorem Sk.seg_append (A B C : List Sk.Nd) : Sk.Seg w (A ++ B) C ↔ Sk.Seg w A (B ++ C) ∧ Sk.Seg w B C := by
 induction A with
 | nil => exact ⟨fun h => ⟨trivial, h⟩, fun h => h.2⟩
 | cons x A ih =>
   rw [List.cons_append, Sk.Seg, Sk.Seg, ih, List.append_assoc]
   exact ⟨fun ⟨a, b, c⟩ => ⟨⟨a, b⟩, c⟩, fun ⟨⟨a, b⟩, c⟩ => ⟨a, b, c⟩⟩
theorem Sk.Seg.same {w' : World} {A B : List Sk.Nd} (h : Sk.Seg w A B) (g : ∀ x ∈ A, w'.heap[x.b]? = w.heap[x.b]?) : Sk.Seg w' A B := by
 induction A with
 | nil => trivial
 | cons x A ih => exact ⟨h.1.of_block (g x List.mem_cons_self), ih h.2 fun y hy => g y (List.mem_cons_of_mem _ hy)⟩
theorem Sk.Seg.other {A B : List Sk.Nd} (h : Sk.Seg w A B) {a : Addr} (ha : ∀ x ∈ A, x.b ≠ a.block) (v : Value) : Sk.Seg (w.setCell a v) A B :=
 h.same fun x hx => Below.heap_setCell _ _ _ _ (ha x hx)
theorem Sk.Seg.tail {A B B' : List Sk.Nd} (h : Sk.Seg w A B) (g : ∀ i, ∀ R, Sk.lnk i (R ++ B') = Sk.lnk i (R ++ B)) : Sk.Seg w A B' := by
 induction A with
 | nil => trivial
 | cons x A ih => exact ⟨h.1.congr fun j _ => Sk.Nd.f_congr (fun i _ => g i A) j, ih h.2⟩
theorem Sk.Seg.alive {A B : List Sk.Nd} (h : Sk.Seg w A B) : ∀ x ∈ A, x.b < w.heap.size := by
 induction A with
 | nil => intro x hx; cases hx
 | cons y A ih =>
   intro x hx
   rcases List.mem_cons.1 hx with rfl | hx
   ·exact h.1.lt
   ·exact ih h.2 x hx
theorem Sk.Seg.lst {A B : List Sk.Nd} {i : Nat} (hi : i < 12) (h : Sk.Seg w A B) : ∀ q : Nat × Nat, w.cell? ⟨q.1, q.2 + i, none⟩ = some (Sk.pt (Sk.lnk i (A ++ B))) →
 w.cell? ⟨(Sk.lst i q A).1, (Sk.lst i q A).2 + i, none⟩ = some (Sk.pt (Sk.lnk i B)) := by
 induction A with
 | nil => exact fun q hq => hq
 | cons x A ih =>
   intro q hq
   rw [Sk.lst]
   by_cases hx : i < x.h
   ·rw [if_pos hx]
    refine ih h.2 _ ?_
    have := h.1.cell (i := 3 + i) (by omega)
    rw [Sk.Nd.f_next hx] at this
    exact this
   ·rw [if_neg hx]
    refine ih h.2 _ ?_
    rw [List.cons_append, Sk.lnk, if_neg hx] at hq
    exact hq
theorem Sk.Seg.lst_frozen {A B : List Sk.Nd} {i : Nat} (h : Sk.Seg w A B) : ∀ q : Nat × Nat, w.frozen? ⟨q.1, q.2 + i, none⟩ = false → w.frozen? ⟨(Sk.lst i q A).1, (Sk.lst i q A).2 + i, none⟩ = false := by
 induction A with
 | nil => exact fun q hq => hq
 | cons x A ih =>
   intro q hq
   rw [Sk.lst]
   by_cases hx : i < x.h
   ·rw [if_pos hx]
    exact ih h.2 _ (h.1.frozen (3 + i))
   ·rw [if_neg hx]
    exact ih h.2 _ hq
theorem Sk.Seg.raise {n : Sk.Nd} {i : Nat} (hi : i < 12) (hn : n.h = i) {B : List Sk.Nd} : ∀ {A : List Sk.Nd} (q : Nat × Nat), Sk.Seg w A (n :: B) → (A.map Sk.Nd.b).Nodup → (∀ x ∈ A, x.b ≠ q.1) →
 Sk.Seg (w.setCell ⟨(Sk.lst i q A).1, (Sk.lst i q A).2 + i, none⟩ (Sk.pt (some n.b))) A (n.up (i + 1) :: B) := by
 intro A
 induction A with
 | nil => intros; trivial
 | cons x A ih =>
   intro q h hd hq
   rw [List.map_cons, List.nodup_cons] at hd
   have hxA : ∀ y ∈ A, y.b ≠ x.b := fun y hy e => hd.1 (e ▸ List.mem_map_of_mem hy)
   have hne : ∀ j, j ≠ i → Sk.lnk j (A ++ n.up (i + 1) :: B) = Sk.lnk j (A ++ n :: B) := fun j hj => Sk.lnk_up hj n hn A B
   rw [Sk.lst]
   by_cases hx : i < x.h
   ·rw [if_pos hx]
    refine ⟨?_, ih (x.b, 3) h.2 hd.2 hxA⟩
    rcases Sk.lst_or i A with hl | ⟨y, hy, _, h2, u, h3⟩
    ·rw [Sk.lst_low _ hl]
     refine (h.1.set (3 + i) _).congr fun j hj => ?_
     by_cases hji : j = 3 + i
     ·rw [if_pos hji, hji, Sk.Nd.f_next hx, Sk.lnk_low _ hl, Sk.lnk, if_pos (show i < (n.up (i + 1)).h from Nat.lt_succ_self i)]
      rfl
     ·rw [if_neg hji]
      unfold Sk.Nd.f
      by_cases h0 : j = 0
      ·rw [if_pos h0, if_pos h0]
      ·by_cases h1 : j = 1
       ·rw [if_neg h0, if_neg h0, if_pos h1, if_pos h1]
       ·by_cases h2 : j = 2
        ·rw [if_neg h0, if_neg h0, if_neg h1, if_neg h1, if_pos h2, if_pos h2]
        ·rw [hne (j - 3) (by omega)]
    ·rw [h2]
     refine (h.1.setOther (a := ⟨y.b, 3 + i, none⟩) (fun e => hxA y hy e.symm) _).congr fun j _ => Sk.Nd.f_congr (fun k _ => ?_) j
     by_cases hk : k = i
     ·rw [hk, h3, h3]
     ·exact hne k hk
   ·rw [if_neg hx]
    refine ⟨?_, ih q h.2 hd.2 fun y hy => hq y (List.mem_cons_of_mem _ hy)⟩
    have hb : x.b ≠ (Sk.lst i q A).1 := by
     rcases Sk.lst_or i A with hl | ⟨y, hy, _, h2, _⟩
     ·rw [Sk.lst_low _ hl]; exact hq x List.mem_cons_self
     ·rw [h2]; exact fun e => hxA y hy e.symm
    exact (h.1.setOther (a := ⟨(Sk.lst i q A).1, (Sk.lst i q A).2 + i, none⟩) hb _).congr fun j _ => Sk.Nd.f_congr (fun k hk => hne k (by omega)) j
theorem Sk.raise_head {n : Sk.Nd} {i p : Nat} {st c b : Value} {t : TypeId} (hi : i < 12) (hn : n.h = i) {A B : List Sk.Nd} (h : w.rowIs p t 15 (Sk.hf st c b (A ++ n :: B))) (hp : ∀ x ∈ A, x.b ≠ p) :
 (w.setCell ⟨(Sk.lst i (p, 0) A).1, (Sk.lst i (p, 0) A).2 + i, none⟩ (Sk.pt (some n.b))).rowIs p t 15 (Sk.hf st c b (A ++ n.up (i + 1) :: B)) := by
 have hne : ∀ j, j ≠ i → Sk.lnk j (A ++ n.up (i + 1) :: B) = Sk.lnk j (A ++ n :: B) := fun j hj => Sk.lnk_up hj n hn A B
 rcases Sk.lst_or i A with hl | ⟨y, hy, _, h2, u, h3⟩
 ·rw [Sk.lst_low _ hl]
  refine (h.set (0 + i) _).congr fun j hj => ?_
  unfold Sk.hf
  by_cases hji : j = 0 + i
  ·rw [if_pos hji, if_pos (by omega), hji, Nat.zero_add, Sk.lnk_low _ hl, Sk.lnk, if_pos (show i < (n.up (i + 1)).h from Nat.lt_succ_self i)]
   rfl
  ·rw [if_neg hji]
   by_cases h12 : j < 12
   ·rw [if_pos h12, if_pos h12, hne j (by omega)]
   ·rw [if_neg h12, if_neg h12]
 ·rw [h2]
  refine (h.setOther (a := ⟨y.b, 3 + i, none⟩) (fun e => hp y hy e.symm) _).congr fun j _ => ?_
  unfold Sk.hf
  by_cases h12 : j < 12
  ·rw [if_pos h12, if_pos h12]
   by_cases hk : j = i
   ·rw [hk, h3, h3]
   ·rw [hne j hk]
  ·rw [if_neg h12, if_neg h12]
theorem Sk.raise_self {n : Sk.Nd} {i : Nat} (hn : n.h = i) {B : List Sk.Nd} (h : w.rowIs n.b 117 15 (n.f B)) :
 (w.setCell ⟨n.b, 3 + i, none⟩ (Sk.pt (Sk.lnk i B))).rowIs n.b 117 15 ((n.up (i + 1)).f B) := by
 refine (h.set (3 + i) _).congr fun j hj => ?_
 have e1 : (n.up (i + 1)).h = i + 1 := rfl
 have e2 : (n.up (i + 1)).gone = n.gone := rfl
 have e3 : (n.up (i + 1)).rv = n.rv := rfl
 have e4 : (n.up (i + 1)).num = n.num := rfl
 unfold Sk.Nd.f
 rw [e1, e2, e3, e4, hn]
 by_cases hji : j = 3 + i
 ·rw [if_pos hji, if_neg (by omega), if_neg (by omega), if_neg (by omega), if_pos (by omega), hji, show 3 + i - 3 = i by omega]
 ·rw [if_neg hji]
  by_cases h0 : j = 0
  ·rw [if_pos h0, if_pos h0]
  ·by_cases h1 : j = 1
   ·rw [if_neg h0, if_neg h0, if_pos h1, if_pos h1]
   ·by_cases h2 : j = 2
    ·rw [if_neg h0, if_neg h0, if_neg h1, if_neg h1, if_pos h2, if_pos h2]
    ·rw [if_neg h0, if_neg h0, if_neg h1, if_neg h1, if_neg h2, if_neg h2]
     by_cases hl : j - 3 < i
     ·rw [if_pos hl, if_pos (by omega)]
     ·rw [if_neg hl, if_neg (by omega)]
end
def Sk.rest (p : Nat) (N : List Sk.Nd) (v : Value) : Nat := match v with
 | .pointer (some a) => if a.block = p then N.length else go a.block N
 | _ => 0
where go (b : Nat) : List Sk.Nd → Nat
 | [] => 0
 | x :: r => if x.b = b then r.length else go b r
theorem Sk.rest_go {x : Sk.Nd} {A B : List Sk.Nd} (hd : ((A ++ x :: B).map Sk.Nd.b).Nodup) : Sk.rest.go x.b (A ++ x :: B) = B.length := by
 induction A with
 | nil => rw [List.nil_append, Sk.rest.go, if_pos rfl]
 | cons y A ih =>
   rw [List.cons_append, List.map_cons, List.nodup_cons] at hd
   rw [List.cons_append, Sk.rest.go, if_neg (fun e : y.b = x.b => hd.1 (by rw [e]; exact List.mem_map_of_mem (by simp))), ih hd.2]
theorem Sk.rest_node {p : Nat} {x : Sk.Nd} {A B : List Sk.Nd} (o : Nat) (hd : ((A ++ x :: B).map Sk.Nd.b).Nodup) (hp : x.b ≠ p) : Sk.rest p (A ++ x :: B) (.pointer (some ⟨x.b, o, none⟩)) = B.length := by
 show (if x.b = p then _ else _) = _
 rw [if_neg hp, Sk.rest_go hd]
theorem Sk.rest_lst {p i o : Nat} {A B : List Sk.Nd} (hd : ((A ++ B).map Sk.Nd.b).Nodup) (hp : ∀ x ∈ A, x.b ≠ p) : B.length ≤ Sk.rest p (A ++ B) (.pointer (some ⟨(Sk.lst i (p, o) A).1, (Sk.lst i (p, o) A).2, none⟩)) := by
 suffices h : ∀ M : List Sk.Nd, A = M.reverse → B.length ≤ Sk.rest p (A ++ B) (.pointer (some ⟨(Sk.lst i (p, o) A).1, (Sk.lst i (p, o) A).2, none⟩)) from h A.reverse (by simp)
 intro M
 induction M generalizing A B with
 | nil =>
   rintro rfl
   show _ ≤ (if p = p then _ else _)
   rw [if_pos rfl]
   simp
 | cons x M ih =>
   rintro rfl
   rw [List.reverse_cons] at hd hp ⊢
   by_cases hx : i < x.h
   ·rw [Sk.lst_high _ _ hx]
    rw [List.append_assoc] at hd ⊢
    exact Nat.le_of_eq (Sk.rest_node 3 hd (hp x (by simp))).symm
   ·have h1 := ih (A := M.reverse) (B := x :: B) (by simpa using hd) (fun y hy => hp y (by simp at hy ⊢; exact .inl hy)) rfl
    rw [Sk.lst_append, Sk.lst, if_neg hx, Sk.lst, List.append_assoc]
    simp only [List.length_cons] at h1
    exact Nat.le_of_lt h1
end
section
open Go Go.RowKit
def Sk.ve (v : Kn.V) : List Value := [.bool v.null, .int .i64 v.n, .string v.s]
theorem Sk.ve_len (v : Kn.V) : (Sk.ve v).length = 3 := rfl
theorem Sk.ve_one (v : Kn.V) : ∀ u ∈ Sk.ve v, u.oneCell' = true := fun u hu => by
 simp only [Sk.ve, List.mem_cons, List.not_mem_nil, or_false] at hu
 rcases hu with rfl | rfl | rfl <;> rfl
def Sk.In (w : World) (v : Value) (l : List Kn.V) : Prop := ∃ a c, v = .slice a l.length c ∧ (∀ x ∈ l, Kn.Z x) ∧ l.length ≤ 4398046511104 ∧ ((a = none ∧ c = 0 ∧ l = []) ∨ ∃ b o, a = some ⟨b, o, none⟩ ∧ b < w.heap.size ∧ ∀ i x, l[i]? = some x → Kn.At w b (o + i * 3) x)
theorem Sk.In.later {w w' : World} {v : Value} {l : List Kn.V} (h : Sk.In w v l) (g : Below w.heap.size w w') : Sk.In w' v l := by
 obtain ⟨a, c, hv, hz, hl, h⟩ := h
 refine ⟨a, c, hv, hz, hl, ?_⟩
 rcases h with h | ⟨b, o, ha, hb, h⟩
 ·exact .inl h
 ·exact .inr ⟨b, o, ha, Nat.lt_of_lt_of_le hb g.size, fun i x hx => (h i x hx).later g⟩
abbrev Sk.Rw (base : Nat) (w : World) (v : Value) (l : List Kn.V) : Prop := Dk.Own 43 3 Sk.ve base w v l
theorem Sk.Rw.in_ {base : Nat} {w : World} {v : Value} {l : List Kn.V} (h : Sk.Rw base w v l) (hz : ∀ x ∈ l, Kn.Z x) (hl : l.length ≤ 4398046511104) : Sk.In w v l := by
 rcases h.form with ⟨rfl, rfl⟩ | ⟨g, c, rfl, _, _, _, hg⟩
 ·exact ⟨none, 0, rfl, hz, hl, .inl ⟨rfl, rfl, rfl⟩⟩
 ·refine ⟨_, c, rfl, hz, hl, .inr ⟨g, 0, rfl, hg, fun i x hx => ?_⟩⟩
  rw [Nat.zero_add]
  exact ⟨h.cell Sk.ve_len (g := g) rfl hx (j := 0) (by decide), h.cell Sk.ve_len (g := g) rfl hx (j := 1) (by decide), h.cell Sk.ve_len (g := g) rfl hx (j := 2) (by decide)⟩
set_option maxHeartbeats 1000000 in
set_option maxRecDepth 100000 in
theorem Sk.clone_c {w : World} {v : Value} {l : List Kn.V} (h : Sk.In w v l) :
 Calls Tryz.prog 116 #[v] w fun e w' => ∃ u, e = .returned u ∧ Sk.Rw w.heap.size w' u l ∧ Below w.heap.size w w' := by
 obtain ⟨a, c, rfl, _, hl, h⟩ := h
 rcases h with ⟨rfl, rfl, rfl⟩ | ⟨b, o, rfl, hb, h⟩
 ·simp only [List.length_nil]
  have he : ∀ w : World, (binOp .eql 24 (.slice none 0 0) (.slice none 0 0)).run Tryz.prog w = .ok (.bool true) w := fun _ => rfl
  go_enter Tryz.func116, Tryz.ntmps116
  go_wp2
  go_ret
  exact ⟨_, rfl, Dk.Own.nil _ _, Below.refl _ _⟩
 ·obtain ⟨w1, hw1⟩ : ∃ w1, w1 = w.alloc (.cells #[] 43) := ⟨_, rfl⟩
  have hb1 : Below w.heap.size w w1 := by rw [hw1]; exact (Below.refl _ w).alloc (Nat.le_refl _) _
  have ho : Sk.Rw w.heap.size w1 (.slice (some ⟨w.heap.size, 0, none⟩) 0 0) [] :=
   ⟨rfl, .inr ⟨w.heap.size, 0, #[], rfl, Nat.le_refl _, by rw [hw1]; exact heap_alloc_new w _, Nat.le_refl _, by decide, rfl, rfl⟩⟩
  have hsrc : Dk.Src Sk.ve w1 (.slice (some ⟨b, o, none⟩) l.length c) l := .inr ⟨_, c, rfl, Dk.src_cells Sk.ve_len (by decide) fun i j x hx hj => by
   have hc := (h i x hx).later hb1
   rcases (by omega : j = 0 ∨ j = 1 ∨ j = 2) with rfl | rfl | rfl
   ·exact hc.c0
   ·exact hc.c1
   ·exact hc.c2⟩
  have HO := Lib.hid ho
  have HS := Lib.hid hsrc
  have HL : Hid (w.heap.size ≤ w1.heap.size ∧ l.length ≤ 4398046511104) := Lib.hid ⟨hb1.size, hl⟩
  have HF : Hid (∀ v' w', Ty.Grew w1 w' (.slice (some ⟨w.heap.size, 0, none⟩) 0 0) v' → Below w.heap.size w w') := Lib.hid fun v' w' g => hb1.trans (g.below hb1.size ho.base_le)
  have he : ∀ w : World, (binOp .eql 24 (.slice (some ⟨b, o, none⟩) l.length c) (.slice none 0 0)).run Tryz.prog w = .ok (.bool false) w := fun _ => rfl
  clear h hsrc ho hb hl hb1
  go_enter Tryz.func116, Tryz.ntmps116
  go_wp2_with (
   at_builtin
   rw [← hw1]
   refine Dk.wpList_append 24 _ 32 Tryz.underlying24 Cl.infoV rfl (by decide) Sk.ve_len Sk.ve_one l HO.out HL.out.1 (by have := HL.out.2; simp; omega) (by have := HL.out.2; simp; omega) HS.out _ _ rfl rfl rfl rfl ?_
   intro v' w' h1 h2
   obtain ⟨av, nv, cv, hv⟩ : ∃ a n c, v' = .slice a n c := by
    rcases h1.form with ⟨e, _⟩ | ⟨g, c, e, _⟩
    ·exact ⟨none, 0, 0, e⟩
    ·exact ⟨_, _, c, e⟩
   have H1 := Lib.hid h1
   have H2 := Lib.hid h2
   clear h1 h2
   subst hv)
  go_ret
  exact ⟨_, rfl, H1.out, HF.out _ _ H2.out⟩
theorem Sk.results_cell {fn : Func} {p : Tmp} {ty : TypeId} (h : fn.results = #[.cell p ty]) (tmps : Array Value) (P : Program) (w : World) :
 (results fn tmps).run P w = ((asAddr (tmps.getD p undef)).run P w).andThen fun a w1 => (loadVar ty a).run P w1 := by
 simp only [results, h]
 simp [Sem.run_bind, Result.andThen]
theorem Sk.box2 {w : World} {x y z u : Value} {t t' : TypeId} {wb : World} (hw : wb = (w.alloc (.cells #[x, y] t)).alloc (.cells #[z, u] t')) :
 Below w.heap.size w wb ∧ wb.heap.size = w.heap.size + 2 ∧ (∀ W, Below wb.heap.size wb W → (W.cell? ⟨w.heap.size, 0, none⟩ = some x ∧ W.cell? ⟨w.heap.size, 1, none⟩ = some y) ∧ W.heap[w.heap.size + 1]? = some (.cells #[z, u] t' (0, 0))) := by
 have h1 : Below w.heap.size w wb := by rw [hw]; exact ((Below.refl _ w).alloc (Nat.le_refl _) _).alloc (by simp) _
 have h2 : wb.heap.size = w.heap.size + 2 := by rw [hw]; simp
 have h3 : wb.heap[w.heap.size]? = some (.cells #[x, y] t (0, 0)) := by
  rw [hw]
  exact (((Below.refl _ (w.alloc (.cells #[x, y] t))).alloc (Nat.le_refl _) _).block w.heap.size (by simp)).trans (heap_alloc_new w _)
 have h4 : wb.heap[w.heap.size + 1]? = some (.cells #[z, u] t' (0, 0)) := by
  rw [hw]
  have := heap_alloc_new (w.alloc (.cells #[x, y] t)) (.cells #[z, u] t')
  rwa [World.size_alloc] at this
 refine ⟨h1, h2, fun W g => ?_⟩
 have a3 := (g.block w.heap.size (by omega)).trans h3
 have a4 := (g.block (w.heap.size + 1) (by omega)).trans h4
 exact ⟨⟨by rw [cell_of_row W _ _ _ _ _ a3]; rfl, by rw [cell_of_row W _ _ _ _ _ a3]; rfl⟩, a4⟩
theorem Sk.Rw.put {base q i : Nat} {w : World} {v u : Value} {l : List Kn.V} (h : Sk.Rw base w v l) (hq : q < base) : Sk.Rw base (w.setCell ⟨q, i, none⟩ u) v l :=
 h.same fun b hb => Below.heap_setCell _ _ _ _ (by have := h.base_le b hb; show b ≠ q; omega)
theorem Sk.Rw.mono {base base' : Nat} {w : World} {v : Value} {l : List Kn.V} (h : Sk.Rw base w v l) (hb : base' ≤ base) : Sk.Rw base' w v l := by
 refine ⟨h.1, ?_⟩
 rcases h.2 with hn | ⟨g, cap, cur, e1, hbg, rest⟩
 ·exact .inl hn
 ·exact .inr ⟨g, cap, cur, e1, Nat.le_trans hb hbg, rest⟩
theorem Sk.put2 {B q : Nat} {w w1 : World} (g : Below B w w1) (hq : B ≤ q) (x y : Value) : Below B w ((w1.setCell ⟨q, 0, none⟩ x).setCell ⟨q, 1, none⟩ y) :=
 (g.setCell (p := ⟨q, 0, none⟩) hq x).setCell (p := ⟨q, 1, none⟩) hq y
set_option maxHeartbeats 2000000 in
set_option maxRecDepth 100000 in
theorem Sk.given_c {w : World} (gn : Bool) {v : Value} {l : List Kn.V} (h : Sk.In w v l) :
 Calls Tryz.prog 90 #[.agg #[.bool gn, v]] w fun e w' => ∃ u, e = .returned (.agg #[.bool gn, u]) ∧ Sk.Rw w.heap.size w' u l ∧ Below w.heap.size w w' := by
 obtain ⟨a, c, hv, _⟩ := id h
 obtain ⟨wb, hwb⟩ : ∃ wb, wb = (w.alloc (.cells #[.bool gn, .slice a l.length c] 26)).alloc (.cells #[.bool false, .slice none 0 0] 26) := ⟨_, rfl⟩
 obtain ⟨hb, hs, hc⟩ := Sk.box2 hwb
 have cc : Calls Tryz.prog 116 #[.slice a l.length c] wb.drew _ := Sk.clone_c (w := wb.drew) (by rw [← hv]; exact h.later hb.drew)
 have CC := Lib.hid cc
 have HC := Lib.hid hc
 have HS : Hid (wb.heap.size = w.heap.size + 2 ∧ Below w.heap.size w wb) := Lib.hid ⟨hs, hb⟩
 obtain ⟨⟨t0, t1⟩, t2⟩ := hc wb.drew (Below.refl _ _).drew
 have z0 : wb.drew.cell? ⟨w.heap.size + 1, 0, none⟩ = some (.bool false) := by rw [cell_of_row _ _ _ _ _ _ t2]; rfl
 have z1 : wb.drew.cell? ⟨w.heap.size + 1, 1, none⟩ = some (.slice none 0 0) := by rw [cell_of_row _ _ _ _ _ _ t2]; rfl
 have f0 := frozen_of_row _ _ 0 _ _ t2
 have f1 := frozen_of_row _ _ 1 _ _ t2
 rw [hv]
 clear h hv cc hc hs hb t2
 go_enter Tryz.func90, Tryz.ntmps90
 go_wp2_with fail
 rw [← hwb]
 clear hwb
 go_region_law (first
  | (go_simp; go_at_call 116; (with_reducible refine CC.out.mono ?_); rintro e w1 ⟨u, rfl, hu, g1⟩
     obtain ⟨av, nv, cv, rfl⟩ : ∃ a n c, u = .slice a n c := by
      rcases hu.form with ⟨e, _⟩ | ⟨g, c, e, _⟩
      ·exact ⟨none, 0, 0, e⟩
      ·exact ⟨_, _, c, e⟩
     have HU := Lib.hid hu
     have HG : Hid (Below wb.heap.size wb w1) := Lib.hid ((Below.refl _ wb).drew.trans g1)
     have HC1 := HC.out w1 HG.out
     have z0 : w1.cell? ⟨w.heap.size + 1, 0, none⟩ = some (.bool false) := by rw [cell_of_row _ _ _ _ _ _ HC1.2]; rfl
     have z1 : w1.cell? ⟨w.heap.size + 1, 1, none⟩ = some (.slice none 0 0) := by rw [cell_of_row _ _ _ _ _ _ HC1.2]; rfl
     have t0 := HC1.1.1
     have t1 := HC1.1.2
     have f0 := frozen_of_row _ _ 0 _ _ HC1.2
     have f1 := frozen_of_row _ _ 1 _ _ HC1.2
     clear HC1 hu g1))
 all_goals
  have HE : Hid (Sk.Rw w.heap.size ((w1.setCell ⟨w.heap.size + 1, 0, none⟩ (.bool gn)).setCell ⟨w.heap.size + 1, 1, none⟩ (.slice av nv cv)) (.slice av nv cv) l ∧ Below w.heap.size w ((w1.setCell ⟨w.heap.size + 1, 0, none⟩ (.bool gn)).setCell ⟨w.heap.size + 1, 1, none⟩ (.slice av nv cv))) := Lib.hid (by
   have hs := HS.out.1
   have hu : Sk.Rw wb.heap.size w1 (.slice av nv cv) l := HU.out
   exact ⟨((hu.put (by omega)).put (by omega)).mono (by omega), Sk.put2 (HS.out.2.trans (HG.out.mono (by omega))) (by omega) _ _⟩)
  clear CC HC HU HG HS
  go_wp2
  (try simp only [Exit.inBlock, Exit.then])
  refine bodyPost_ret (v := .agg #[.bool gn, .slice av nv cv]) ?_ rfl ⟨_, rfl, HE.out⟩
  rw [Sk.results_cell rfl]
  go_simp
end
section
open Go.RowKit
def Sk.rowB (r : List Kn.V) : Nat := (r.map fun v => 8 + v.s.size).sum
def Sk.deedB (d : Dd.D) : Nat := 8 + Sk.rowB d.row
def Sk.bytes (L : List Dd.D) : Nat := (L.map Sk.deedB).sum
theorem Sk.rowB_step (r : List Kn.V) (i : Nat) (v : Kn.V) (h : r[i]? = some v) : Sk.rowB (r.take (i + 1)) = Sk.rowB (r.take i) + (8 + v.s.size) := by
 obtain ⟨hi, e⟩ := List.getElem?_eq_some_iff.1 h
 unfold Sk.rowB
 rw [List.take_succ_eq_append_getElem hi, List.map_append, List.sum_append, e]
 simp
theorem Sk.wrap_add (a b : Int) : wrap64 (wrap64 a + b) = wrap64 (a + b) := by
 unfold wrap64
 omega
end
section
open Go Go.RowKit
theorem Sk.set_self {α : Type} (l : List α) (k : Nat) (x : α) (h : l[k]? = some x) : l.set k x = l := by
 obtain ⟨hk, rfl⟩ := List.getElem?_eq_some_iff.1 h
 exact List.set_getElem_self hk
theorem Sk.two_set {W : World} {q : Nat} {t : TypeId} {x y : Value} (x' y' : Value) (h : W.heap[q]? = some (.cells #[x, y] t (0, 0))) : ((W.setCell ⟨q, 0, none⟩ x').setCell ⟨q, 1, none⟩ y').heap[q]? = some (.cells #[x', y'] t (0, 0)) := by
 simp [World.setCell, Array.getElem?_modify, h]
theorem Sk.Rw.again {base g k n c : Nat} {w : World} {l : List Kn.V} {x : Kn.V} (h : Sk.Rw base w (.slice (some ⟨g, 0, none⟩) n c) l) (hx : l[k]? = some x) :
 Sk.Rw base (w.setCell ⟨g, k * 3 + 2, none⟩ (.string x.s)) (.slice (some ⟨g, 0, none⟩) n c) l := by
 have := Dk.Own.set Sk.ve_len h (g := g) rfl hx (j := 2) (by decide) (.string x.s) x rfl
 rwa [Sk.set_self l k x hx] at this
set_option maxHeartbeats 4000000 in
set_option maxRecDepth 100000 in
theorem Sk.kept_c {w : World} (gn : Bool) {v : Value} {l : List Kn.V} (h : Sk.In w v l) :
 Calls Tryz.prog 60 #[.agg #[.bool gn, v]] w fun e w' => ∃ u, e = .returned (.agg #[.bool gn, u]) ∧ Sk.Rw w.heap.size w' u l ∧ Below w.heap.size w w' := by
 obtain ⟨a, c, hv, hz, hl, _⟩ := id h
 obtain ⟨wb, hwb⟩ : ∃ wb, wb = (w.alloc (.cells #[.bool gn, .slice a l.length c] 26)).alloc (.cells #[.bool false, .slice none 0 0] 26) := ⟨_, rfl⟩
 obtain ⟨hb, hs, hc⟩ := Sk.box2 hwb
 have cc : Calls Tryz.prog 90 #[.agg #[.bool gn, .slice a l.length c]] wb _ := Sk.given_c (w := wb) gn (by rw [← hv]; exact h.later hb)
 have hblk : wb.heap[w.heap.size]? = some (.cells #[.bool gn, .slice a l.length c] 26 (0, 0)) := by
  rw [hwb]
  exact (((Below.refl _ (w.alloc (.cells #[.bool gn, .slice a l.length c] 26))).alloc (Nat.le_refl _) _).block w.heap.size (by simp)).trans (heap_alloc_new w _)
 obtain ⟨⟨t0, t1⟩, t2⟩ := hc wb (Below.refl _ _)
 have HM := Lib.hid hz
 have HS : Hid (wb.heap.size = w.heap.size + 2 ∧ Below w.heap.size w wb ∧ l.length ≤ 4398046511104) := Lib.hid ⟨hs, hb, hl⟩
 have HBLK := Lib.hid hblk
 have HT2 := Lib.hid t2
 rw [hv]
 clear h hv hc hs hb t2 hz hblk hl
 go_enter Tryz.func60, Tryz.ntmps60
 go_wp2_with fail
 rw [← hwb]
 clear hwb
 with_reducible refine cc.mono ?_
 rintro e w1 ⟨u, rfl, hu, g1⟩
 have HU := Lib.hid hu
 have HG := Lib.hid g1
 have HB1 := Lib.hid ((g1.block w.heap.size (by have := HS.out.1; omega)).trans HBLK.out)
 have b1 := (g1.block w.heap.size (by have := HS.out.1; omega)).trans HBLK.out
 have t0 : w1.cell? ⟨w.heap.size, 0, none⟩ = some (.bool gn) := by rw [cell_of_row _ _ _ _ _ _ b1]; rfl
 have t1 : w1.cell? ⟨w.heap.size, 1, none⟩ = some (.slice a l.length c) := by rw [cell_of_row _ _ _ _ _ _ b1]; rfl
 have f0 := frozen_of_row _ _ 0 _ _ b1
 have f1 := frozen_of_row _ _ 1 _ _ b1
 have HZ := Lib.hid ((g1.block (w.heap.size + 1) (by have := HS.out.1; omega)).trans HT2.out)
 obtain ⟨av, cv, rfl⟩ : ∃ a c, u = .slice a l.length c := by
  rcases hu.form with ⟨e, e0⟩ | ⟨g, c, e, _⟩
  ·exact ⟨none, 0, by rw [e, e0]; rfl⟩
  ·exact ⟨_, c, e⟩
 clear b1 hu g1 cc HT2 HBLK
 go_wp2_with fail
 have hst : ∃ W, W = (w1.setCell ⟨w.heap.size, 0, none⟩ (.bool gn)).setCell ⟨w.heap.size, 1, none⟩ (.slice av l.length cv) := ⟨_, rfl⟩
 obtain ⟨w2, hw2⟩ := hst
 have hC : ∀ W, Below (w.heap.size + 2) w2 W → W.cell? ⟨w.heap.size, 0, none⟩ = some (.bool gn) ∧ W.cell? ⟨w.heap.size, 1, none⟩ = some (.slice av l.length cv) ∧ W.heap[w.heap.size + 1]? = some (.cells #[.bool false, .slice none 0 0] 26 (0, 0)) := fun W g => by
  have eb : w2.heap[w.heap.size]? = some (.cells #[.bool gn, .slice av l.length cv] 26 (0, 0)) := by rw [hw2]; exact Sk.two_set _ _ HB1.out
  have e0 : w2.cell? ⟨w.heap.size, 0, none⟩ = some (.bool gn) := by rw [cell_of_row _ _ _ _ _ _ eb]; rfl
  have e1 : w2.cell? ⟨w.heap.size, 1, none⟩ = some (.slice av l.length cv) := by rw [cell_of_row _ _ _ _ _ _ eb]; rfl
  have e2 : w2.heap[w.heap.size + 1]? = some (.cells #[.bool false, .slice none 0 0] 26 (0, 0)) := by
   rw [hw2, Below.heap_setCell _ _ _ _ (by show w.heap.size + 1 ≠ w.heap.size; omega), Below.heap_setCell _ _ _ _ (by show w.heap.size + 1 ≠ w.heap.size; omega)]
   exact HZ.out
  exact ⟨(g.cell (p := ⟨w.heap.size, 0, none⟩) (by show w.heap.size < _; omega)).trans e0, (g.cell (p := ⟨w.heap.size, 1, none⟩) (by show w.heap.size < _; omega)).trans e1, (g.block _ (by omega)).trans e2⟩
 have HC := Lib.hid hC
 have HR : Hid (Sk.Rw (w.heap.size + 2) w2 (.slice av l.length cv) l ∧ Below w.heap.size w w2 ∧ w.heap.size + 2 ≤ w2.heap.size) := Lib.hid (by
  have h1 := HS.out.1
  have h2 := HG.out.size
  have hu : Sk.Rw (w.heap.size + 2) w1 (.slice av l.length cv) l := by rw [← h1]; exact HU.out
  refine ⟨by rw [hw2]; exact (hu.put (by omega)).put (by omega), by rw [hw2]; exact Sk.put2 (HS.out.2.1.trans (HG.out.mono (by omega))) (Nat.le_refl _) _ _, by rw [hw2]; simp [World.setCell]; omega⟩)
 rw [← hw2]
 clear hw2 hC t0 t1 f0 f1 HZ HU HG
 have hl := HS.out.2.2
 have hl0 : (0 : Int) ≤ (l.length : Int) := by omega
 clear HS
 go_loopw [9] (fun i wr => ∃ k : Nat, k ≤ l.length ∧ i = .int .i64 k ∧ Below (w.heap.size + 2) w2 wr ∧ Sk.Rw (w.heap.size + 2) wr (.slice av l.length cv) l) (fun i _ => l.length - (intOf i).toNat)
 case atStart => exact ⟨0, Nat.zero_le _, rfl, Below.refl _ _, HR.out.1⟩
 case round =>
  obtain ⟨k, hk, rfl, hB, hR⟩ := hrel
  have HB := Lib.hid hB
  have HR2 := Lib.hid hR
  have hk0 : (0 : Int) ≤ (k : Int) := by omega
  by_cases hkl : k < l.length
  ·have hki : (k : Int) < (l.length : Int) := by omega
   obtain ⟨x, hx⟩ : ∃ x, l[k]? = some x := ⟨_, List.getElem?_eq_getElem hkl⟩
   obtain ⟨g, rfl⟩ : ∃ g, av = some ⟨g, 0, none⟩ := by
    rcases hR.form with ⟨_, e0⟩ | ⟨g, c, e, _⟩
    ·rw [e0] at hkl; simp at hkl
    ·simp only [Value.slice.injEq] at e
     exact ⟨g, e.1⟩
   have HX : Hid (∀ W, Below wr.heap.size wr W → W.cell? ⟨g, k * 3 + 2, none⟩ = some (.string x.s) ∧ W.frozen? ⟨g, k * 3 + 2, none⟩ = false ∧ W.cell? ⟨w.heap.size, 1, none⟩ = some (.slice (some ⟨g, 0, none⟩) l.length cv)) := Lib.hid fun W gW => by
    have h2 := HR2.out.kept gW
    obtain ⟨cs, hcs⟩ := h2.typed g rfl
    exact ⟨h2.cell Sk.ve_len (g := g) rfl hx (j := 2) (by decide), frozen_of_row _ _ _ _ _ hcs, (HC.out W (HB.out.trans (gW.mono (by have := HB.out.size; have := HR.out.2.2; omega)))).2.1⟩
   have hxz := HM.out x (List.mem_of_getElem? hx)
   have cc := Tx.clone_c x.s wr.drew (by unfold Kn.Z at hxz; omega)
   have CC := Lib.hid cc
   have HSET : Hid (∀ W, Below wr.heap.size wr W → Below (w.heap.size + 2) w2 (W.setCell ⟨g, k * 3 + 2, none⟩ (.string x.s)) ∧ Sk.Rw (w.heap.size + 2) (W.setCell ⟨g, k * 3 + 2, none⟩ (.string x.s)) (.slice (some ⟨g, 0, none⟩) l.length cv) l) := Lib.hid fun W gW => by
    have hg := HR2.out.base_le g rfl
    exact ⟨(HB.out.trans (gW.mono (by have := HB.out.size; have := HR.out.2.2; omega))).setCell (p := ⟨g, k * 3 + 2, none⟩) hg _, Sk.Rw.again (HR2.out.kept gW) hx⟩
   obtain ⟨c0, f0, r0⟩ := HX.out wr.drew (Below.refl _ wr).drew
   clear hB hR hx hxz cc HM
   generalize x.s = s at CC HX HSET c0
   go_wp2_with fail
   go_region_law (first
    | (go_simp; go_at_call 40; (with_reducible refine CC.out.mono ?_); rintro e w3 ⟨rfl, g3⟩
       have HG3 : Hid (Below wr.heap.size wr w3) := Lib.hid ((Below.refl _ wr).drew.trans g3)
       obtain ⟨c0, f0, r0⟩ := HX.out w3 HG3.out
       clear g3))
   all_goals
    have HQ := Lib.hid (HSET.out _ HG3.out)
    go_wp2
    go_roundw
    case rel => exact ⟨k + 1, by omega, by simp, HQ.out.1, HQ.out.2⟩
    case measure => simp [intOf]; omega
  ·obtain rfl : k = l.length := by omega
   have hki : ¬ (l.length : Int) < (l.length : Int) := by omega
   obtain ⟨r0, r1, r2⟩ := HC.out wr HB.out
   have z0 : wr.cell? ⟨w.heap.size + 1, 0, none⟩ = some (.bool false) := by rw [cell_of_row _ _ _ _ _ _ r2]; rfl
   have z1 : wr.cell? ⟨w.heap.size + 1, 1, none⟩ = some (.slice none 0 0) := by rw [cell_of_row _ _ _ _ _ _ r2]; rfl
   have f0 := frozen_of_row _ _ 0 _ _ r2
   have f1 := frozen_of_row _ _ 1 _ _ r2
   have HE : Hid (Sk.Rw w.heap.size ((wr.setCell ⟨w.heap.size + 1, 0, none⟩ (.bool gn)).setCell ⟨w.heap.size + 1, 1, none⟩ (.slice av l.length cv)) (.slice av l.length cv) l ∧ Below w.heap.size w ((wr.setCell ⟨w.heap.size + 1, 0, none⟩ (.bool gn)).setCell ⟨w.heap.size + 1, 1, none⟩ (.slice av l.length cv))) := Lib.hid
    ⟨((HR2.out.put (by omega)).put (by omega)).mono (by omega), Sk.put2 (HR.out.2.1.trans (HB.out.mono (by omega))) (by omega) _ _⟩
   clear hB hR HM HC HR HR2 HB r2
   go_wp2
   (try simp only [Exit.inBlock, Exit.then])
   refine bodyPost_ret (v := .agg #[.bool gn, .slice av l.length cv]) ?_ rfl ⟨_, rfl, HE.out⟩
   rw [Sk.results_cell rfl]
   go_simp
end
section
open Go Go.RowKit
def Sk.Ky (w : World) (b : Nat) (k : Kn.V) : Prop := ∃ g n c, w.cell? ⟨b, 1, none⟩ = some (.slice (some ⟨g, 0, none⟩) n c) ∧ 0 < n ∧ Kn.At w g 0 k
theorem Sk.Ky.later {w w' : World} {b : Nat} {k : Kn.V} (h : Sk.Ky w b k) (g : Below w.heap.size w w') : Sk.Ky w' b k := by
 obtain ⟨q, n, c, h1, h2, h3⟩ := h
 exact ⟨q, n, c, (g.cell (p := ⟨b, 1, none⟩) (World.block_lt_of_cell? w _ h1)).trans h1, h2, h3.later g⟩
set_option maxHeartbeats 1000000 in
set_option maxRecDepth 100000 in
theorem Sk.key_c {w : World} {b : Nat} {k : Kn.V} (h : Sk.Ky w b k) :
 Calls Tryz.prog 92 #[.pointer (some ⟨b, 0, none⟩)] w fun e w' => e = .returned k.val ∧ Below w.heap.size w w' := by
 obtain ⟨wb, hwb⟩ : ∃ wb, wb = w.alloc (.cells #[.bool false, .int .i64 0, .string ⟨#[]⟩] 43) := ⟨_, rfl⟩
 have hb : Below w.heap.size w wb := by rw [hwb]; exact (Below.refl _ w).alloc (Nat.le_refl _) _
 have hz : wb.heap[w.heap.size]? = some (.cells #[.bool false, .int .i64 0, .string ⟨#[]⟩] 43 (0, 0)) := by rw [hwb]; exact heap_alloc_new w _
 obtain ⟨g, n, c, c1, hn, ⟨k0, k1, k2⟩⟩ := h.later hb
 have z0 : wb.cell? ⟨w.heap.size, 0, none⟩ = some (.bool false) := by rw [cell_of_row _ _ _ _ _ _ hz]; rfl
 have z1 : wb.cell? ⟨w.heap.size, 1, none⟩ = some (.int .i64 0) := by rw [cell_of_row _ _ _ _ _ _ hz]; rfl
 have z2 : wb.cell? ⟨w.heap.size, 2, none⟩ = some (.string ⟨#[]⟩) := by rw [cell_of_row _ _ _ _ _ _ hz]; rfl
 have f0 := frozen_of_row _ _ 0 _ _ hz
 have f1 := frozen_of_row _ _ 1 _ _ hz
 have f2 := frozen_of_row _ _ 2 _ _ hz
 have hn' : (0 : Int) < (n : Int) := by omega
 obtain ⟨kn, ki, ks⟩ := k
 unfold Kn.V.val
 clear h hb hz
 subst hwb
 go_enter Tryz.func92, Tryz.ntmps92
 go_wp2
 (try simp only [Exit.inBlock, Exit.then])
 refine bodyPost_ret (v := .agg #[.bool kn, .int .i64 ki, .string ks]) ?_ rfl ⟨rfl, (Below.refl _ w).alloc (Nat.le_refl _) _⟩
 rw [Sk.results_cell rfl]
 go_simp
set_option maxHeartbeats 4000000 in
set_option maxRecDepth 100000 in
theorem Sk.size_c {w : World} (gn : Bool) {v : Value} {l : List Kn.V} (h : Sk.In w v l) :
 Calls Tryz.prog 63 #[.agg #[.bool gn, v]] w fun e w' => e = .returned (.int .i64 (wrap64 (8 + (Sk.rowB l : Int)))) ∧ Below w.heap.size w w' := by
 obtain ⟨a, c, rfl, hz, hl, h⟩ := h
 obtain ⟨wb, hwb⟩ : ∃ wb, wb = w.alloc (.cells #[.bool gn, .slice a l.length c] 26) := ⟨_, rfl⟩
 have hb : Below w.heap.size w wb := by rw [hwb]; exact (Below.refl _ w).alloc (Nat.le_refl _) _
 have hblk : wb.heap[w.heap.size]? = some (.cells #[.bool gn, .slice a l.length c] 26 (0, 0)) := by rw [hwb]; exact heap_alloc_new w _
 have r1 : wb.cell? ⟨w.heap.size, 1, none⟩ = some (.slice a l.length c) := by rw [cell_of_row _ _ _ _ _ _ hblk]; rfl
 have HX : Hid (∀ i x, l[i]? = some x → ∃ b o, a = some ⟨b, o, none⟩ ∧ (∀ W, Below wb.heap.size wb W → Kn.At W b (o + i * 3) x) ∧ x.s.size ≤ 140737488351232) := Lib.hid fun i x hx => by
  rcases h with ⟨_, _, rfl⟩ | ⟨b, o, ha, _, h⟩
  ·cases hx
  ·exact ⟨b, o, ha, fun W g => ((h i x hx).later hb).later g, hz x (List.mem_of_getElem? hx)⟩
 have HB := Lib.hid hb
 have HT : Hid (l.take l.length = l) := Lib.hid List.take_length
 have hli : (l.length : Int) ≤ 4398046511104 := by omega
 have hw8 : wrap64 (8 : Int) = 8 := by unfold wrap64; omega
 have HW8 := Lib.hid hw8
 clear h hb hz hl hblk hw8
 go_enter Tryz.func63, Tryz.ntmps63
 go_wp2_with fail
 rw [← hwb]
 clear hwb
 go_wp2_with fail
 go_loopw [3, 5, 9] (fun n _ i wr => ∃ k : Nat, k ≤ l.length ∧ i = .int .i64 k ∧ n = .int .i64 (wrap64 (8 + (Sk.rowB (l.take k) : Int))) ∧ Below wb.heap.size wb wr) (fun _ _ i _ => l.length - (intOf i).toNat)
 case atStart => exact ⟨0, Nat.zero_le _, rfl, by rw [show Sk.rowB (l.take 0) = 0 from rfl]; rw [show (8 : Int) + ((0 : Nat) : Int) = 8 from rfl, HW8.out], Below.refl _ _⟩
 case round =>
  obtain ⟨k, hk, rfl, rfl, hB⟩ := hrel
  have HB2 := Lib.hid hB
  have hk0 : (0 : Int) ≤ (k : Int) := by omega
  by_cases hkl : k < l.length
  ·have hki : (k : Int) < (l.length : Int) := by omega
   obtain ⟨x, hx⟩ : ∃ x, l[k]? = some x := ⟨_, List.getElem?_eq_getElem hkl⟩
   obtain ⟨b, o, rfl, hat, hxs⟩ := HX.out k x hx
   obtain ⟨x0, x1, x2⟩ := hat wr hB
   have hstep := Sk.rowB_step l k x hx
   have HS : Hid ((Sk.rowB (l.take (k + 1)) : Int) = (Sk.rowB (l.take k) : Int) + (8 + (x.s.size : Int))) := Lib.hid (by omega)
   have hwr : IntKind.i64.wrap (8 + (x.s.size : Int)) = 8 + (x.s.size : Int) := by rw [IntKind.wrap_i64]; omega
   have HN : Hid (∀ W, Below wr.heap.size wr W → Below wb.heap.size wb W) := Lib.hid fun W g => HB2.out.trans (g.mono HB2.out.size)
   obtain ⟨xn, xi, xs⟩ := x
   simp only at x0 x1 x2 HS hwr hxs
   generalize (Sk.rowB (l.take k) : Int) = rm at HS ⊢
   clear hx hat hstep hB HX
   go_wp2
   go_roundw
   case rel => exact ⟨k + 1, by omega, by simp, by rw [Sk.wrap_add, HS.out]; congr 2; omega, HN.out _ ((Below.refl _ wr).alloc (Nat.le_refl _) _)⟩
   case measure => simp [intOf]; omega
  ·obtain rfl : k = l.length := by omega
   have hki : ¬ (l.length : Int) < (l.length : Int) := by omega
   have HE : Hid (Below w.heap.size w wr) := Lib.hid (HB.out.trans (hB.mono HB.out.size))
   rw [HT.out]
   clear hB HX HB2
   go_wp2
   go_ret
   exact ⟨rfl, HE.out⟩
end
section
open Go Go.RowKit
set_option maxHeartbeats 2000000 in
set_option maxRecDepth 100000 in
theorem Sk.hasno_c {w : World} (k : Kn.V) :
 Calls Tryz.prog 62 #[.pointer none, k.val] w fun e w' => e = .returned (.bool false) ∧ Below w.heap.size w w' := by
 obtain ⟨kn, ki, ks⟩ := k
 have HB : Hid (Below w.heap.size w (w.alloc (.cells #[.bool kn, .int .i64 ki, .string ks] 43))) := Lib.hid ((Below.refl _ w).alloc (Nat.le_refl _) _)
 unfold Kn.V.val
 go_enter Tryz.func62, Tryz.ntmps62
 go_wp2_with fail
 generalize w.alloc _ = wb at HB ⊢
 go_quiet (fail)
 go_wp2
 go_ret
 exact ⟨rfl, Kn.below_drewN HB.out _⟩
set_option maxHeartbeats 2000000 in
set_option maxRecDepth 100000 in
theorem Sk.has_c {w : World} {b : Nat} {x : Kn.V} (h : Sk.Ky w b x) (k : Kn.V) :
 Calls Tryz.prog 62 #[.pointer (some ⟨b, 0, none⟩), k.val] w fun e w' => e = .returned (.bool (Kn.cmp x k == 0)) ∧ Below w.heap.size w w' := by
 obtain ⟨wb, hwb⟩ : ∃ wb, wb = w.alloc (.cells #[.bool k.null, .int .i64 k.n, .string k.s] 43) := ⟨_, rfl⟩
 have hb : Below w.heap.size w wb := by rw [hwb]; exact (Below.refl _ w).alloc (Nat.le_refl _) _
 have hk : Kn.At wb w.heap.size 0 k := by rw [hwb]; exact Kn.At.new w k _
 have CK := Lib.hid (Sk.key_c ((h.later hb).later (Below.refl _ wb).drew))
 have CC : Hid (∀ W, Below wb.heap.size wb W → Calls Tryz.prog 91 #[x.val, k.val] W fun e w' => e = .returned (.int .i64 (Kn.cmp x k)) ∧ Below wb.heap.size wb w') := Lib.hid fun W g =>
  (Kn.compare_c x k W).mono fun e w' hh => ⟨hh.1, g.trans (hh.2.mono g.size)⟩
 have HK : Hid (∀ W, Below wb.heap.size wb W → Kn.At W w.heap.size 0 k) := Lib.hid fun W g => hk.later g
 have HB : Hid (∀ W, Below wb.heap.size wb W → Below w.heap.size w W) := Lib.hid fun W g => hb.trans (g.mono hb.size)
 obtain ⟨k0, k1, k2⟩ := HK.out wb.drew (Below.refl _ wb).drew
 generalize Kn.cmp x k = C at CC ⊢
 generalize x.val = xv at CK CC
 obtain ⟨kn, ki, ks⟩ := k
 unfold Kn.V.val at CC ⊢
 clear h hb hk
 go_enter Tryz.func62, Tryz.ntmps62
 go_wp2_with fail
 rw [← hwb]
 clear hwb
 go_region_law (first
  | (go_simp; go_at_call 92; (with_reducible refine CK.out.mono ?_); rintro e w1 ⟨rfl, g1⟩
     have G1 : Hid (Below wb.heap.size wb w1) := Lib.hid ((Below.refl _ wb).drew.trans g1)
     obtain ⟨k0, k1, k2⟩ := HK.out w1 G1.out
     clear g1)
  | (go_simp; go_at_call 91; (with_reducible refine (CC.out _ G1.out).mono ?_); rintro e w2 ⟨rfl, g2⟩
     have G2 := Lib.hid g2
     clear g2))
 all_goals
  have HE := Lib.hid (HB.out _ G2.out)
  clear G1 G2 CK CC HK
  go_wp2
  go_ret
  exact ⟨rfl, HE.out⟩
def Sk.Tab (w : World) : Prop := ∀ j : Nat, j < 64 → ∃ t : Nat, t < 64 ∧ w.cell? ⟨3, j, none⟩ = some (.int .u8 (t : Int))
theorem Sk.Tab.lt {w : World} (h : Sk.Tab w) : 3 < w.heap.size := by
 obtain ⟨t, _, hc⟩ := h 0 (by decide)
 exact World.block_lt_of_cell? w _ hc
theorem Sk.Tab.later {B : Nat} {w w' : World} (h : Sk.Tab w) (g : Below B w w') (hB : 3 < B) : Sk.Tab w' := fun j hj => by
 obtain ⟨t, ht, hc⟩ := h j hj
 exact ⟨t, ht, (g.cell (p := ⟨3, j, none⟩) hB).trans hc⟩
set_option maxHeartbeats 1000000 in
set_option maxRecDepth 100000 in
theorem Sk.tz_c {w : World} (h : Sk.Tab w) (x : Int) :
 Calls Tryz.prog 120 #[.int .u64 x] w fun e w' => ∃ t : Nat, t < 65 ∧ e = .returned (.int .i64 (t : Int)) ∧ w' = w := by
 by_cases hx : x = 0
 ·subst hx
  go_enter Tryz.func120, Tryz.ntmps120
  go_wp2
  go_ret
  exact ⟨64, by decide, rfl, rfl⟩
 ·have hx2 : (x == 0) = false := by rw [beq_eq_false_iff_ne]; exact hx
  obtain ⟨J, hJ, hJ64⟩ : ∃ J : Nat, IntKind.u64.wrap (bits .and .u64 x (IntKind.u64.wrap (-x)) * 285870213051353865) / 288230376151711744 = (J : Int) ∧ J < 64 := by
   generalize bits .and .u64 x (IntKind.u64.wrap (-x)) * 285870213051353865 = y
   have hy : 0 ≤ IntKind.u64.wrap y ∧ IntKind.u64.wrap y < 18446744073709551616 := by
    have e : IntKind.u64.wrap y = y % 18446744073709551616 := by rfl
    rw [e]
    omega
   exact ⟨(IntKind.u64.wrap y / 288230376151711744).toNat, by omega, by omega⟩
  obtain ⟨t, ht, hc⟩ := h J hJ64
  have hJ0 : (0 : Int) ≤ (J : Int) := by omega
  have hJi : (J : Int) < 64 := by omega
  have ht0 : (0 : Int) ≤ (t : Int) := by omega
  have hti : (t : Int) < 64 := by omega
  clear h hx hJ64
  go_enter Tryz.func120, Tryz.ntmps120
  go_wp2
  go_ret
  exact ⟨t, by omega, rfl, rfl⟩
end
section
open Go Go.RowKit
structure Sk.PL (S : Nat → Prop) (w : World) (p : Nat) (N : List Sk.Nd) : Prop where
 hdr : ∃ st : Int, w.rowIs p 109 15 (Sk.hf (.int .u64 st) (.int .i64 (N.length : Int)) (.int .i64 (wrap64 (Sk.bytes (N.map Sk.Nd.d) : Int))) N)
 seg : Sk.Seg w N []
 nodup : (N.map Sk.Nd.b).Nodup
 num : ∀ x ∈ N, x.num < N.length
 rows : ∀ x ∈ N, Sk.Rw 0 w x.rv x.row ∧ x.row ≠ [] ∧ (∀ v ∈ x.row, Kn.Z v) ∧ x.row.length ≤ 4398046511104
 ownS : ∀ x ∈ N, ∀ b, x.rv.ownBlock = some b → S b
 mine : S p
 nodes : ∀ x ∈ N, S x.b
 alive : ∀ b, S b → b < w.heap.size
 asc : Sk.Asc Sk.kn N
 hgt : ∀ x ∈ N, 1 ≤ x.h
theorem Sk.Seg.mem {w : World} {A B : List Sk.Nd} (h : Sk.Seg w A B) {x : Sk.Nd} (hx : x ∈ A) : ∃ r, w.rowIs x.b 117 15 (x.f r) := by
 induction A with
 | nil => cases hx
 | cons y A ih =>
   rcases List.mem_cons.1 hx with rfl | hx
   ·exact ⟨_, h.1⟩
   ·exact ih h.2 hx
theorem Sk.PL.ne {S : Nat → Prop} {w : World} {p : Nat} {N : List Sk.Nd} (h : Sk.PL S w p N) : ∀ x ∈ N, x.b ≠ p := by
 intro x hx e
 obtain ⟨st, c, h1, _⟩ := h.hdr
 obtain ⟨r, c', h2, _⟩ := h.seg.mem hx
 rw [e, h1] at h2
 simp only [Option.some.injEq, Obj.cells.injEq] at h2
 exact absurd h2.2.1 (by decide)
theorem Sk.PL.same {S : Nat → Prop} {w w' : World} {p : Nat} {N : List Sk.Nd} (h : Sk.PL S w p N) (hs : w.heap.size ≤ w'.heap.size) (g : ∀ b, S b → w'.heap[b]? = w.heap[b]?) : Sk.PL S w' p N := by
 obtain ⟨st, h1⟩ := h.hdr
 exact ⟨⟨st, h1.of_block (g p h.mine)⟩, h.seg.same fun x hx => g x.b (h.nodes x hx), h.nodup, h.num,
  fun x hx => ⟨(h.rows x hx).1.same fun b hb => g b (h.ownS x hx b hb), (h.rows x hx).2⟩, h.ownS, h.mine, h.nodes, fun b hb => Nat.lt_of_lt_of_le (h.alive b hb) hs, h.asc, h.hgt⟩
theorem Sk.PL.kept {S : Nat → Prop} {w w' : World} {p : Nat} {N : List Sk.Nd} (h : Sk.PL S w p N) (g : Below w.heap.size w w') : Sk.PL S w' p N :=
 h.same g.size fun b hb => g.block b (h.alive b hb)
theorem Sk.PL.in_ {S : Nat → Prop} {w : World} {p : Nat} {N : List Sk.Nd} (h : Sk.PL S w p N) {x : Sk.Nd} (hx : x ∈ N) : Sk.In w x.rv x.row :=
 (h.rows x hx).1.in_ (h.rows x hx).2.2.1 (h.rows x hx).2.2.2
theorem Sk.PL.slice {S : Nat → Prop} {w : World} {p : Nat} {N : List Sk.Nd} (h : Sk.PL S w p N) {x : Sk.Nd} (hx : x ∈ N) : ∃ g c, x.rv = .slice (some ⟨g, 0, none⟩) x.row.length c := by
 rcases (h.rows x hx).1.form with ⟨_, e⟩ | ⟨g, c, e, _⟩
 ·exact absurd e (h.rows x hx).2.1
 ·exact ⟨g, c, e⟩
theorem Sk.PL.node {S : Nat → Prop} {w : World} {p : Nat} {N : List Sk.Nd} (h : Sk.PL S w p N) {x : Sk.Nd} (hx : x ∈ N) :
 w.cell? ⟨x.b, 0, none⟩ = some (.bool x.gone) ∧ w.cell? ⟨x.b, 1, none⟩ = some x.rv ∧ w.cell? ⟨x.b, 2, none⟩ = some (.int .i64 (x.num : Int)) := by
 obtain ⟨r, hr⟩ := h.seg.mem hx
 exact ⟨hr.cell (i := 0) (by decide), hr.cell (i := 1) (by decide), hr.cell (i := 2) (by decide)⟩
theorem Sk.PL.key {S : Nat → Prop} {w : World} {p : Nat} {N : List Sk.Nd} (h : Sk.PL S w p N) {x : Sk.Nd} (hx : x ∈ N) : Sk.Ky w x.b (Sk.kn x) := by
 obtain ⟨g, c, hv⟩ := h.slice hx
 obtain ⟨hr, hne, _⟩ := h.rows x hx
 obtain ⟨k, r, hk⟩ : ∃ k r, x.row = k :: r := List.exists_cons_of_ne_nil hne
 have hkn : Sk.kn x = k := by unfold Sk.kn Sk.kd Sk.Nd.d; rw [hk]; rfl
 have hc := fun j (hj : j < 3) => hr.cell Sk.ve_len (g := g) (i := 0) (x := k) (j := j) (by rw [hv]; rfl) (by rw [hk]; rfl) hj
 refine ⟨g, x.row.length, c, by rw [← hv]; exact (h.node hx).2.1, List.length_pos_iff.2 hne, ?_⟩
 rw [hkn]
 have h0 := hc 0 (by decide)
 have h1 := hc 1 (by decide)
 have h2 := hc 2 (by decide)
 simp only [Nat.zero_mul, Nat.zero_add] at h0 h1 h2
 exact ⟨h0, h1, h2⟩
theorem Sk.PL.lnk {S : Nat → Prop} {w : World} {p : Nat} {A B : List Sk.Nd} (h : Sk.PL S w p (A ++ B)) {i : Nat} (hi : i < 12) :
 w.cell? ⟨(Sk.lst i (p, 0) A).1, (Sk.lst i (p, 0) A).2 + i, none⟩ = some (Sk.pt (Sk.lnk i B)) ∧ w.frozen? ⟨(Sk.lst i (p, 0) A).1, (Sk.lst i (p, 0) A).2 + i, none⟩ = false := by
 obtain ⟨st, h1⟩ := h.hdr
 have hs := ((Sk.seg_append A B []).1 h.seg).1
 rw [List.append_nil] at hs
 refine ⟨hs.lst hi (p, 0) ?_, hs.lst_frozen (p, 0) (h1.frozen _)⟩
 have := h1.cell (i := 0 + i) (by omega)
 rw [this]
 unfold Sk.hf
 rw [if_pos (by omega), Nat.zero_add]
set_option maxHeartbeats 1000000 in
set_option maxRecDepth 100000 in
theorem Sk.draw_c {w : World} {p : Nat} {st : Int} {c b : Value} {N : List Sk.Nd} (h : w.rowIs p 109 15 (Sk.hf (.int .u64 st) c b N)) (hT : Sk.Tab w) (hp : 3 < p) :
 Calls Tryz.prog 93 #[.pointer (some ⟨p, 0, none⟩)] w fun e w' => ∃ (k : Nat) (st' : Int), 1 ≤ k ∧ k ≤ 12 ∧ e = .returned (.int .i64 (k : Int)) ∧ w' = w.setCell ⟨p, 12, none⟩ (.int .u64 st') := by
 have c0 := h.cell (i := 12) (by decide)
 have f0 := h.frozen 12
 have e0 : Sk.hf (.int .u64 st) c b N 12 = .int .u64 st := rfl
 rw [e0] at c0
 have HT : Hid (∀ v, Sk.Tab (w.setCell ⟨p, 12, none⟩ v)) := Lib.hid fun v => hT.later ((Below.refl _ w).setCell (B := p) (p := ⟨p, 12, none⟩) (Nat.le_refl _) v) hp
 clear h hT e0
 go_enter Tryz.func93, Tryz.ntmps93
 go_wp2_with fail
 with_reducible refine (Sk.tz_c (HT.out _) _).mono ?_
 rintro e w1 ⟨t, ht, rfl, rfl⟩
 obtain ⟨q, hq⟩ : ∃ q, q = t / 2 := ⟨_, rfl⟩
 have hq2 : (t : Int) / 2 = (q : Int) := by omega
 have hq3 : q < 33 := by omega
 clear ht hq
 have hq0 : (0 : Int) ≤ (q : Int) := by omega
 go_wp2
 go_ret
 exact ⟨min (1 + q) 12, _, by omega, by omega, (show Ending.returned (.int .i64 (min (1 + (q : Int)) 12)) = _ from by rw [show min (1 + (q : Int)) 12 = ((min (1 + q) 12 : Nat) : Int) by omega]), rfl⟩
set_option maxHeartbeats 1000000 in
set_option maxRecDepth 100000 in
theorem Sk.new_c {w : World} (seed : Int) :
 Calls Tryz.prog 29 #[.int .u64 seed] w fun e w' => e = .returned (.pointer (some ⟨w.heap.size, 0, none⟩)) ∧ Sk.PL (fun b => b = w.heap.size) w' w.heap.size [] ∧ Below w.heap.size w w' := by
 have hw : wrap64 (0 : Int) = 0 := by unfold wrap64; omega
 have HP : Hid (∀ cs : Array Value, cs = ((List.range 15).map (Sk.hf (.int .u64 seed) (.int .i64 0) (.int .i64 0) [])).toArray → Sk.PL (fun b => b = w.heap.size) (w.alloc (.cells cs 109)) w.heap.size []) := Lib.hid fun cs hcs => by
  refine ⟨⟨seed, ?_⟩, trivial, List.nodup_nil, fun x hx => (by cases hx), fun x hx => (by cases hx), fun x hx => (by cases hx), rfl, fun x hx => (by cases hx), fun b hb => by rw [hb, World.size_alloc]; omega, List.Pairwise.nil, fun x hx => (by cases hx)⟩
  have := World.rowIs_alloc w cs 109 (Sk.hf (.int .u64 seed) (.int .i64 0) (.int .i64 0) []) (fun i hi => by
   subst hcs
   rw [List.getElem?_toArray, List.getElem?_map, List.getElem?_range (by simpa using hi)]
   rfl)
  rw [show cs.size = 15 by rw [hcs]; rfl] at this
  rw [show Sk.bytes (List.map Sk.Nd.d []) = 0 from rfl, show (([] : List Sk.Nd).length : Int) = 0 from rfl, show (((0 : Nat)) : Int) = 0 from rfl, hw]
  exact this
 clear hw
 go_enter Tryz.func29, Tryz.ntmps29
 go_wp2
 go_ret
 exact ⟨rfl, HP.out _ rfl, (Below.refl _ w).alloc (Nat.le_refl _) _⟩
end
end Go.Proofs.YtkhiemkekmdhgaaGreatDoor
